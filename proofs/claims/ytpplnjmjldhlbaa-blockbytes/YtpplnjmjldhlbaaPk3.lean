/- Contracts of the program's functions, part 3 of 10: what each call returns and leaves of memory. -/
import Derived.Test.YtpplnjmjldhlbaaRows
import Derived.Test.YtpplnjmjldhlbaaPk2
import Derived.Test.YtpplnjmjldhlbaaPk1
import Derived.Laws.Bits64
import Derived.Deep.MidRow
import Derived.Laws.ResultCell
import Derived.Laws.CopyOwn
import Derived.Deep.RegionLaw
import Derived.Laws.MakeOwn
import Derived.ProofKit
import Derived.Carry
import Derived.OpenShut
import Derived.Lib.SmallJoins
import Derived.Deep.RegionHeld3
import Derived.OwnWalk
/- Plain numbers: numbers that are made from a seed; no condition. -/
namespace Go.Proofs.Ytpplnjmjldhlbaa
/-- A step of the mixing. -/
def sprN (x p c : Nat) : Nat := (x ^^^ (x / p)) * c % 18446744073709551616
/-- What a state is mixed to. -/
def mixN (st : Nat) : Nat := sprN (sprN st 1073741824 13787848793156543929) 134217728 10723151780598845931 ^^^ (sprN (sprN st 1073741824 13787848793156543929) 134217728 10723151780598845931 / 2147483648)
/-- State number i (from 0 on) of a seed. -/
def stN (seed i : Nat) : Nat := (seed + i * 11400714819323198485) % 18446744073709551616
theorem stN_lt (seed i : Nat) : stN seed i < 18446744073709551616 := Nat.mod_lt _ (by decide)
theorem stN_succ (seed i : Nat) : stN seed (i + 1) = (stN seed i + 11400714819323198485) % 18446744073709551616 := by unfold stN; omega
theorem stN_zero (seed : Nat) (h : seed < 18446744073709551616) : stN seed 0 = seed := by unfold stN; omega
theorem sprN_lt (x p c : Nat) : sprN x p c < 18446744073709551616 := Nat.mod_lt _ (by decide)
theorem xor_lt {a b : Nat} (ha : a < 18446744073709551616) (hb : b < 18446744073709551616) : a ^^^ b < 18446744073709551616 := Nat.xor_lt_two_pow (n := 64) ha hb
theorem mixN_lt (st : Nat) : mixN st < 18446744073709551616 := xor_lt (sprN_lt _ _ _) (Nat.lt_of_le_of_lt (Nat.div_le_self _ _) (sprN_lt _ _ _))
/-- The number that a state makes, for a bound. -/
def genN (st m : Nat) : Int := ((mixN st / 4294967296 * (2 * m) / 4294967296 : Nat) : Int) - m
theorem gen_in (st m : Nat) (hm : m ≤ 131072) : mixN st / 4294967296 < 4294967296 ∧ mixN st / 4294967296 * (2 * m) ≤ 1125899906580480 ∧ mixN st / 4294967296 * (2 * m) / 4294967296 ≤ 2 * m := by
  have h := mixN_lt st
  have h1 : mixN st / 4294967296 ≤ 4294967295 := by omega
  have h2 : mixN st / 4294967296 * (2 * m) ≤ 4294967295 * 262144 := Nat.mul_le_mul h1 (by omega)
  have h3 : mixN st / 4294967296 * (2 * m) ≤ 4294967295 * (2 * m) := Nat.mul_le_mul_right _ h1
  exact ⟨by omega, h2, by omega⟩
theorem genN_bd (st m : Nat) (hm : m ≤ 131072) (h0 : 1 ≤ m) : -(m : Int) ≤ genN st m ∧ genN st m < m := by
  have h := mixN_lt st
  have h1 : mixN st / 4294967296 ≤ 4294967295 := by omega
  have h3 : mixN st / 4294967296 * (2 * m) ≤ 4294967295 * (2 * m) := Nat.mul_le_mul_right _ h1
  unfold genN
  omega
end Go.Proofs.Ytpplnjmjldhlbaa

/- A model's source of numbers: the next number. -/
namespace Go.Proofs.Ytpplnjmjldhlbaa
open Go.ChangeShapes Go.WideShapes Go.ChangeAt Go.RowKit
theorem xor_div (x p : Nat) (P : Int) (hP : P = (p : Int)) (hx : x < 18446744073709551616) : bits BinOp.xor IntKind.u64 (x : Int) ((x : Int) / P) = ((x ^^^ (x / p) : Nat) : Int) := by
  have e : ((x : Int) / (p : Int)) = ((x / p : Nat) : Int) := rfl
  rw [hP, e, bits_xor_u64_nat x (x / p) hx (Nat.lt_of_le_of_lt (Nat.div_le_self _ _) hx)]
theorem step_xor (x p c : Nat) (P C : Int) (hP : P = (p : Int)) (hC : C = (c : Int)) (hx : x < 18446744073709551616) : ∃ y : Nat, bits BinOp.xor IntKind.u64 (x : Int) ((x : Int) / P) = (y : Int) ∧ IntKind.u64.wrap ((y : Int) * C) = (sprN x p c : Int) := by
  refine ⟨_, xor_div x p P hP hx, ?_⟩
  rw [IntKind.wrap_u64, hC]
  unfold sprN
  omega
end Go.Proofs.Ytpplnjmjldhlbaa

/- A model's source of numbers: rows and matrices of them. -/
namespace Go.Proofs.Ytpplnjmjldhlbaa
open Go.ChangeShapes Go.WideShapes Go.ChangeAt Go.RowKit
/-- Of what was there, only block g may have turned. -/
structure But (g : Nat) (w w' : World) : Prop where
  os : w'.os = w.os
  tape : w'.tape = w.tape
  output : w'.output = w.output
  size : w.heap.size ≤ w'.heap.size
  block : ∀ k, k < w.heap.size → k ≠ g → w'.heap[k]? = w.heap[k]?
theorem But.refl (g : Nat) (w : World) : But g w w := ⟨rfl, rfl, rfl, Nat.le_refl _, fun _ _ _ => rfl⟩
theorem But.of_below {g : Nat} {w w' : World} (h : Below w.heap.size w w') : But g w w' := ⟨h.os, h.tape, h.output, h.size, fun k hk _ => h.block k hk⟩
theorem But.trans {g : Nat} {w w1 w2 : World} (h : But g w w1) (k : But g w1 w2) : But g w w2 :=
  ⟨k.os.trans h.os, k.tape.trans h.tape, k.output.trans h.output, Nat.le_trans h.size k.size, fun j hj hn => (k.block j (Nat.lt_of_lt_of_le hj h.size) hn).trans (h.block j hj hn)⟩
theorem But.set {g : Nat} {w w' : World} (h : But g w w') {a : Addr} (ha : a.block = g ∨ w.heap.size ≤ a.block) (v : Value) : But g w (w'.setCell a v) :=
  ⟨h.os, h.tape, h.output, by simpa [World.setCell] using h.size, fun k hk hn => by
    have hne : k ≠ a.block := by omega
    rw [Below.heap_setCell _ _ _ _ hne]; exact h.block k hk hn⟩
theorem But.alloc {g : Nat} {w w' : World} (h : But g w w') (o : Obj) : But g w (w'.alloc o) := h.trans (But.of_below ((Below.refl _ _).alloc (Nat.le_refl _) _))
theorem But.below {g : Nat} {w w' : World} (h : But g w w') {B : Nat} (hB : B ≤ w.heap.size) (hg : B ≤ g) : Below B w w' :=
  ⟨h.os, h.tape, h.output, h.size, fun k hk => h.block k (by omega) (by omega)⟩
theorem Fresh.but {w w' : World} {B g gd n cap : Nat} {A : List Int} (h : Fresh w B gd n cap A) (k : But g w w') (hg : g < B) : Fresh w' B gd n cap A := h.of_block (k.block gd h.lt (by have := h.base; omega))
theorem Blk.but {w w' : World} {g gb : Nat} {T : TypeId} {cs : Array Value} (h : Blk w gb T cs) (k : But g w w') (hg : gb ≠ g) : Blk w' gb T cs := h.of_block (k.block gb h.lt hg)
/-- Number k (from 0 on) of a seed, for a bound. -/
def numN (seed k m : Nat) : Int := genN (stN seed (k + 1)) m
theorem numN_bd (seed k m : Nat) (hm : m ≤ 131072) (h0 : 1 ≤ m) : -(m : Int) ≤ numN seed k m ∧ numN seed k m < m := genN_bd _ m hm h0
end Go.Proofs.Ytpplnjmjldhlbaa

/- A model's source of numbers: one layer. Laid by tools/genblock.py. -/
namespace Go.Proofs.Ytpplnjmjldhlbaa
open Go.ChangeShapes Go.WideShapes Go.ChangeAt Go.RowKit
/-- The cells of a layer. -/
def bcs (a0 a1 a2 a3 a4 a5 a6 a7 a8 a9 a10 a11 a12 a13 a14 a15 a16 a17 a18 a19 : Value) : Array Value := #[a0, a1, a2, a3, a4, a5, a6, a7, a8, a9, a10, a11, a12, a13, a14, a15, a16, a17, a18, a19]
/-- A row of the call's own, as a value. -/
def rv (g n : Nat) : Value := .slice (some ⟨g, 0, none⟩) n n
/-- The cells of a layer that was made. -/
def madeB (D H f q k v o s u d : Nat) : Array Value := bcs (rv f D) (.int .i64 D) (.int .i64 D) (rv q (D * D)) (.int .i64 D) (.int .i64 D) (rv k (D * D)) (.int .i64 D) (.int .i64 D) (rv v (D * D)) (.int .i64 D) (.int .i64 D) (rv o (D * D)) (rv s D) (.int .i64 H) (.int .i64 D) (rv u (H * D)) (.int .i64 D) (.int .i64 H) (rv d (D * H))
/-- How many numbers a layer has. -/
def lenB (D H : Nat) : Nat := D + D * D + D * D + D * D + D * D + D + H * D + D * H
/-- Rows of gains and of a matrix, from number i on. -/
def gainR (seed i n : Nat) : List Int := tab n fun j => 65536 + numN seed (i + j) 16384
def numR (seed i n m : Nat) : List Int := tab n fun j => numN seed (i + j) m
/-- A made layer's rows. -/
structure MadeB (w : World) (B seed i D H f q k v o s u d : Nat) : Prop where
  f : Fresh w B f D D (gainR seed i D)
  q : Fresh w B q (D * D) (D * D) (numR seed (i + D) (D * D) 65536)
  k : Fresh w B k (D * D) (D * D) (numR seed (i + D + D * D) (D * D) 65536)
  v : Fresh w B v (D * D) (D * D) (numR seed (i + D + D * D + D * D) (D * D) 65536)
  o : Fresh w B o (D * D) (D * D) (numR seed (i + D + D * D + D * D + D * D) (D * D) 65536)
  s : Fresh w B s D D (gainR seed (i + D + D * D + D * D + D * D + D * D) D)
  u : Fresh w B u (H * D) (H * D) (numR seed (i + D + D * D + D * D + D * D + D * D + D) (H * D) 65536)
  d : Fresh w B d (D * H) (D * H) (numR seed (i + D + D * D + D * D + D * D + D * D + D + H * D) (D * H) 65536)
/-- A configuration's cells. -/
def cfgC (V D Hd H L : Int) : Array Value := #[.int .i64 V, .int .i64 D, .int .i64 Hd, .int .i64 H, .int .i64 L]

theorem But.row {g : Nat} {w w' : World} (h : But g w w') {b : Nat} (hb : w.heap.size ≤ b) (cs : Array Value) : But g w (w'.setRow b cs) :=
  ⟨h.os, h.tape, h.output, by simpa using h.size, fun k hk hn => by rw [setRow_other _ _ _ _ (by omega)]; exact h.block k hk hn⟩
theorem Fresh.rowOther {w : World} {B g n cap : Nat} {A : List Int} (h : Fresh w B g n cap A) {b : Nat} (hb : g ≠ b) (cs : Array Value) : Fresh (w.setRow b cs) B g n cap A := h.of_block (setRow_other _ _ _ _ hb)
end Go.Proofs.Ytpplnjmjldhlbaa

/- The error of a configuration. -/
namespace Go.Proofs.Ytpplnjmjldhlbaa
open Go.ChangeShapes Go.WideShapes Go.ChangeAt Go.RowKit
/-- The error's number of a configuration. -/
def shapeN (V D Hd H L : Int) : Int := if V < 2 ∨ D < 1 ∨ Hd < 1 ∨ H < 1 ∨ L < 1 then 1 else if 64 < V ∨ 32 < D ∨ 4 < Hd ∨ 64 < H ∨ 4 < L then 2 else if D.tmod Hd ≠ 0 then 4 else 0
/-- A number of 64 bits. -/
def I64 (x : Int) : Prop := -9223372036854775808 ≤ x ∧ x ≤ 9223372036854775807
theorem shape_ok {V D Hd H L : Int} (h : shapeN V D Hd H L = 0) : 2 ≤ V ∧ V ≤ 64 ∧ 1 ≤ D ∧ D ≤ 32 ∧ 1 ≤ Hd ∧ Hd ≤ 4 ∧ 1 ≤ H ∧ H ≤ 64 ∧ 1 ≤ L ∧ L ≤ 4 := by
  unfold shapeN at h
  split at h
  · omega
  · split at h
    · omega
    · omega
end Go.Proofs.Ytpplnjmjldhlbaa

/- A model's numbers, made from a seed. -/
namespace Go.Proofs.Ytpplnjmjldhlbaa
open Go.ChangeShapes Go.WideShapes Go.ChangeAt Go.RowKit
theorem results_blk {fn : Func} {p u : Tmp} {ty : TypeId} (h : fn.results = #[.cell p ty, .tmp u]) (tmps : Array Value) (w : World) (g : Nat) (cs : Array Value)
    (hp : tmps.getD p undef = .pointer (some ⟨g, 0, none⟩)) (hl : (loadVar ty ⟨g, 0, none⟩).run Try.prog w = .ok (.agg cs) w) :
    (results fn tmps).run Try.prog w = .ok (.tuple #[.agg cs, tmps.getD u undef]) w := by
  rw [results_cell_tmp h, hp]
  simp only [asAddr, Result.andThen]
  simp [hl]
/-- The cells of no model. -/
def noW : Array Value := #[.int .i64 0, .int .i64 0, .slice none 0 0, .slice none 0 0, .slice none 0 0, .int .i64 0, .int .i64 0, .slice none 0 0]
theorem setCells_other (b : Nat) : ∀ (vs : List Value) (o : Nat) (w : World) (k : Nat), k ≠ b → (w.setCells b o vs).heap[k]? = w.heap[k]?
  | [], _, _, _, _ => rfl
  | v :: r, o, w, k, h => by rw [World.setCells, setCells_other b r (o + 1) _ k h, Below.heap_setCell _ _ _ _ (by exact h)]
theorem setCells_block (b : Nat) (T : TypeId) : ∀ (vs : List Value) (o : Nat) (w : World) (cs : Array Value), w.heap[b]? = some (.cells cs T (0, 0)) → ∃ cs', (w.setCells b o vs).heap[b]? = some (.cells cs' T (0, 0)) ∧ cs'.size = cs.size
  | [], _, _, cs, h => ⟨cs, h, rfl⟩
  | v :: r, o, w, cs, h => by
    obtain ⟨cs', h1, h2⟩ := setCells_block b T r (o + 1) (w.setCell ⟨b, o, none⟩ v) (cs.setIfInBounds o v) (by simp [World.setCell, Array.getElem?_modify, h])
    exact ⟨cs', h1, by simpa using h2⟩
theorem setCells_rest (b : Nat) : ∀ (vs : List Value) (o : Nat) (w : World), (w.setCells b o vs).os = w.os ∧ (w.setCells b o vs).tape = w.tape ∧ (w.setCells b o vs).output = w.output ∧ (w.setCells b o vs).heap.size = w.heap.size
  | [], _, _ => ⟨rfl, rfl, rfl, rfl⟩
  | v :: r, o, w => by
    obtain ⟨h1, h2, h3, h4⟩ := setCells_rest b r (o + 1) (w.setCell ⟨b, o, none⟩ v)
    exact ⟨h1, h2, h3, by rw [World.setCells, h4]; simp [World.setCell]⟩
theorem Below.setCells {B : Nat} {w w' : World} (h : Below B w w') {b : Nat} (hb : B ≤ b) (o : Nat) (vs : List Value) : Below B w (w'.setCells b o vs) := by
  obtain ⟨h1, h2, h3, h4⟩ := setCells_rest b vs o w'
  exact ⟨h1.trans h.os, h2.trans h.tape, h3.trans h.output, by rw [h4]; exact h.size, fun k hk => by rw [setCells_other b vs o w' k (by omega)]; exact h.block k hk⟩
theorem there_of {w : World} {b n : Nat} {T : TypeId} {cs : Array Value} (h : w.heap[b]? = some (.cells cs T (0, 0))) (o : Nat) (hn : o + n ≤ cs.size) : w.there b o n := fun j hj => by
  refine ⟨?_, ?_⟩
  · unfold World.cell?; simp only [h]; simp; omega
  · unfold World.frozen?; simp only [h]; rfl
theorem rangeAt_block {w w' : World} {b o : Nat} {cs : List Value} (h : w.rangeAt b o cs) (e : w'.heap[b]? = w.heap[b]?) : w'.rangeAt b o cs := fun j v hv => by rw [World.cell?_of_block (w := w) e]; exact h j v hv
theorem MadeB.of {w w' : World} {B B' seed i D H f q k v o s u d : Nat} (h : MadeB w B seed i D H f q k v o s u d) (hB : B' ≤ B) (hk : ∀ {g n c : Nat} {A : List Int}, Fresh w B g n c A → w'.heap[g]? = w.heap[g]?) : MadeB w' B' seed i D H f q k v o s u d :=
  ⟨(h.f.of_block (hk h.f)).mono hB, (h.q.of_block (hk h.q)).mono hB, (h.k.of_block (hk h.k)).mono hB, (h.v.of_block (hk h.v)).mono hB, (h.o.of_block (hk h.o)).mono hB, (h.s.of_block (hk h.s)).mono hB, (h.u.of_block (hk h.u)).mono hB, (h.d.of_block (hk h.d)).mono hB⟩
/-- A row of numbers lies in no block of another type. -/
theorem Fresh.ne {w : World} {B g n c : Nat} {A : List Int} (h : Fresh w B g n c A) {b : Nat} {T : TypeId} {cs : Array Value} (hb : w.heap[b]? = some (.cells cs T (0, 0))) (hT : T ≠ 71) : g ≠ b := by
  rintro rfl
  obtain ⟨c9, h9, _⟩ := h.row
  rw [hb] at h9
  simp at h9
  exact hT h9.2
/-- The cells of a model whose first matrix and layers were made. -/
def wCells (V D : Nat) (e b l o : Value) (V' D' : Int) : Array Value := #[.int .i64 V, .int .i64 D, e, b, l, .int .i64 V', .int .i64 D', o]
theorem madeB_len (D H f q k v o s u d : Nat) : (madeB D H f q k v o s u d).toList.length = 20 := rfl
end Go.Proofs.Ytpplnjmjldhlbaa

/- A model's numbers, made from a seed: the walk. -/
namespace Go.Proofs.Ytpplnjmjldhlbaa
open Go.ChangeShapes Go.WideShapes Go.ChangeAt Go.RowKit
theorem store_block (w : World) (b o : Nat) (cells : Array Value) (hc : cells.size = 20) (ht : w.there b o 20) (h1 : cells.all (·.oneCell') = true) : (storeCells ⟨b, o, none⟩ cells.toList).run Try.prog w = .ok () (w.setCells b o cells.toList) := by
  have := run_storeCells_cells (P := Try.prog) b o cells.toList 0 w (fun j hj => by simpa using (ht j (by simpa [hc] using hj)).1) (fun j hj => by simpa using (ht j (by simpa [hc] using hj)).2)
    (fun v hv => (Array.all_eq_true_iff_forall_mem.1 h1) v (by simpa using hv))
  simpa using this
theorem madeB_one (D H f q k v o s u d : Nat) : (madeB D H f q k v o s u d).all (·.oneCell') = true := by simp [madeB, bcs, rv, Value.oneCell']
end Go.Proofs.Ytpplnjmjldhlbaa

/- The awake check of the laws of layer 6 is true; the document's made number; configurations as arguments. -/
namespace Go.Proofs.Ytpplnjmjldhlbaa
open Go.ChangeShapes Go.WideShapes Go.ChangeAt Go.RowKit
theorem first_two : numR 0 0 2 131072 = [100482, -17950] := by decide +kernel
theorem stN_at (seed i : Nat) : (seed + (i + 1) * 11400714819323198485 % 18446744073709551616) % 18446744073709551616 = stN seed (i + 1) := by unfold stN; omega
end Go.Proofs.Ytpplnjmjldhlbaa

/- An argument that is a row of fixed numbers, opened once: nil, empty or not. -/
namespace Go.Proofs.Ytpplnjmjldhlbaa
open Go.ChangeShapes Go.WideShapes Go.ChangeAt Go.RowKit
theorem Try.own : ownKnob Try.prog.godebug = none := by kernel_rfl
theorem Try.laidOut : laidOutB Try.prog = true := by kernel_rfl
theorem Try.cellsNum : Try.prog.cellsOf 71 = 1 := by kernel_rfl
end Go.Proofs.Ytpplnjmjldhlbaa

/- An argument that is a configuration, opened once. -/
namespace Go.Proofs.Ytpplnjmjldhlbaa
open Go.ChangeShapes Go.WideShapes Go.ChangeAt Go.RowKit
theorem array5 {α : Type} {cs : Array α} (h : cs.size = 5) : ∃ c0 c1 c2 c3 c4, cs = #[c0, c1, c2, c3, c4] := by
  obtain ⟨l⟩ := cs
  match l, h with
  | [c0, c1, c2, c3, c4], _ => exact ⟨c0, c1, c2, c3, c4, rfl⟩
/-- A configuration. -/
structure Cfg where
  V : Int
  D : Int
  Hd : Int
  H : Int
  L : Int
def Cfg.val (C : Cfg) : Value := .agg (cfgC C.V C.D C.Hd C.H C.L)
structure Cfg.Ok (C : Cfg) : Prop where
  V : I64 C.V
  D : I64 C.D
  Hd : I64 C.Hd
  H : I64 C.H
  L : I64 C.L
set_option maxRecDepth 100000 in
theorem viewCfg {H : Type} {enc : TypeId × Value → H} {W : World} {b0 : Nat} {v : Value} {d : DataW H} {p : List MemPlace} (hv : Value.okWide Try.prog W .any b0 23 v)
    (h : DataW.Trod enc Try.prog W 0 (fun _ => true) true 23 v d p) : ∃ C : Cfg, v = C.val ∧ C.Ok := by
  obtain ⟨cs, rfl, hsz⟩ := okWide_struct Try.underlying23 hv
  obtain ⟨c0, c1, c2, c3, c4, rfl⟩ := array5 (hsz.trans (by kernel_rfl))
  obtain ⟨fuel, hf⟩ := h
  obtain ⟨xs, n, _, _, hl, hlen, hf⟩ := DataW.trod_struct Try.underlying23 hf
  have ci : Try.prog.cellsOf 3 = 1 := by kernel_rfl
  have t0 := hf 0 _ rfl
  have t1 := hf 1 _ rfl
  have t2 := hf 2 _ rfl
  have t3 := hf 3 _ rfl
  have t4 := hf 4 _ rfl
  have g : ∀ (j : Nat), j < 5 → ∃ y, xs[j]? = some y := fun j hj => ⟨_, List.getElem?_eq_getElem (by rw [hlen]; exact hj)⟩
  obtain ⟨y0, h0⟩ := g 0 (by omega)
  obtain ⟨y1, h1⟩ := g 1 (by omega)
  obtain ⟨y2, h2⟩ := g 2 (by omega)
  obtain ⟨y3, h3⟩ := g 3 (by omega)
  obtain ⟨y4, h4⟩ := g 4 (by omega)
  simp only [Value.cells, h0, h1, h2, h3, h4] at t0 t1 t2 t3 t4
  obtain ⟨x0, e0, _, w0⟩ := DataW.trod_int Try.underlying3 t0
  obtain ⟨x1, e1, _, w1⟩ := DataW.trod_int Try.underlying3 t1
  obtain ⟨x2, e2, _, w2⟩ := DataW.trod_int Try.underlying3 t2
  obtain ⟨x3, e3, _, w3⟩ := DataW.trod_int Try.underlying3 t3
  obtain ⟨x4, e4, _, w4⟩ := DataW.trod_int Try.underlying3 t4
  simp [ci] at e0 e1 e2 e3 e4
  subst e0 e1 e2 e3 e4
  exact ⟨⟨x0, x1, x2, x3, x4⟩, rfl, bounds_i64 w0, bounds_i64 w1, bounds_i64 w2, bounds_i64 w3, bounds_i64 w4⟩
end Go.Proofs.Ytpplnjmjldhlbaa

/- What Make answers of any configuration, as laws use it. -/
namespace Go.Proofs.Ytpplnjmjldhlbaa
open Go.ChangeShapes Go.WideShapes Go.ChangeAt Go.RowKit
theorem noW_one : noW.all (·.oneCell') = true := by simp [noW, Value.oneCell']
theorem wCells_one (V D e b l o : Nat) (n1 n2 n3 n4 : Nat) (V' D' : Int) : (wCells V D (rv e n1) (rv b n2) (rv l n3) (rv o n4) V' D').all (·.oneCell') = true := by simp [wCells, rv, Value.oneCell']
/-- A configuration in its box. -/
theorem cfg_cells {w : World} {g : Nat} {C : Cfg} (h : Blk w g 23 (cfgC C.V C.D C.Hd C.H C.L)) : w.cell? ⟨g, 0, none⟩ = some (.int .i64 C.V) ∧ w.cell? ⟨g, 1, none⟩ = some (.int .i64 C.D) ∧ w.cell? ⟨g, 2, none⟩ = some (.int .i64 C.Hd) ∧ w.cell? ⟨g, 3, none⟩ = some (.int .i64 C.H) ∧ w.cell? ⟨g, 4, none⟩ = some (.int .i64 C.L) :=
  ⟨h.cell 0 rfl, h.cell 1 rfl, h.cell 2 rfl, h.cell 3 rfl, h.cell 4 rfl⟩
end Go.Proofs.Ytpplnjmjldhlbaa

/- Whether numbers fit a configuration: sides, one layer, all. -/
namespace Go.Proofs.Ytpplnjmjldhlbaa
open Go.ChangeShapes Go.WideShapes Go.ChangeAt Go.RowKit
/-- A slice, a matrix, a layer, a model, as values. -/
structure Sl where
  ao : Option Addr
  n : Nat
  c : Nat
def Sl.v (s : Sl) : Value := .slice s.ao s.n s.c
structure Mt where
  r : Int
  c : Int
  d : Sl
structure Bk where
  f : Sl
  q : Mt
  k : Mt
  v : Mt
  o : Mt
  s : Sl
  u : Mt
  d : Mt
def Bk.cells (b : Bk) : Array Value := bcs b.f.v (.int .i64 b.q.r) (.int .i64 b.q.c) b.q.d.v (.int .i64 b.k.r) (.int .i64 b.k.c) b.k.d.v (.int .i64 b.v.r) (.int .i64 b.v.c) b.v.d.v (.int .i64 b.o.r) (.int .i64 b.o.c) b.o.d.v b.s.v (.int .i64 b.u.r) (.int .i64 b.u.c) b.u.d.v (.int .i64 b.d.r) (.int .i64 b.d.c) b.d.d.v
structure Wt where
  e : Mt
  b : Sl
  l : Sl
  o : Mt
def Wt.cells (W : Wt) : Array Value := #[.int .i64 W.e.r, .int .i64 W.e.c, W.e.d.v, W.b.v, W.l.v, .int .i64 W.o.r, .int .i64 W.o.c, W.o.d.v]
structure Mt.Ok (m : Mt) : Prop where
  r : I64 m.r
  c : I64 m.c
structure Bk.Ok (b : Bk) : Prop where
  f : b.f.n ≤ 9223372036854775807
  q : b.q.Ok
  k : b.k.Ok
  v : b.v.Ok
  o : b.o.Ok
  s : b.s.n ≤ 9223372036854775807
  u : b.u.Ok
  d : b.d.Ok
/-- Is it a sound matrix of so many rows and columns? -/
def sidesB (m : Mt) (R K : Int) : Bool := decide (chkN m.r m.c m.d.n = 0 ∧ m.r = R ∧ m.c = K)
def bkB (D H : Int) (b : Bk) : Bool := decide ((b.f.n : Int) = D) && decide ((b.s.n : Int) = D) && sidesB b.q D D && sidesB b.k D D && sidesB b.v D D && sidesB b.o D D && sidesB b.u H D && sidesB b.d D H
end Go.Proofs.Ytpplnjmjldhlbaa

/- Whether one layer's numbers fit a configuration. -/
namespace Go.Proofs.Ytpplnjmjldhlbaa
open Go.ChangeShapes Go.WideShapes Go.ChangeAt Go.RowKit
end Go.Proofs.Ytpplnjmjldhlbaa

/- Whether all numbers fit a configuration. -/
namespace Go.Proofs.Ytpplnjmjldhlbaa
open Go.ChangeShapes Go.WideShapes Go.ChangeAt Go.RowKit
/-- In w the slice b reads as the layers bs. -/
structure BlocksAt (w : World) (b : Sl) (bs : List Bk) : Prop where
  len : bs.length = b.n
  max : b.n ≤ 9223372036854775807
  ok : ∀ x ∈ bs, x.Ok
  cells : 0 < b.n → ∃ g o, b.ao = some ⟨g, o, none⟩ ∧ ∀ (t : Nat) (x : Bk), bs[t]? = some x → w.rangeAt g (o + t * 20) x.cells.toList
theorem BlocksAt.below {w w' : World} {b : Sl} {bs : List Bk} (h : BlocksAt w b bs) (hb : Below w.heap.size w w') : BlocksAt w' b bs := by
  refine ⟨h.len, h.max, h.ok, fun hn => ?_⟩
  obtain ⟨g, o, e, hc⟩ := h.cells hn
  refine ⟨g, o, e, fun t x hx => ?_⟩
  have r := hc t x hx
  have c0 := r 0 x.f.v rfl
  have hlt : g < w.heap.size := by simpa using World.block_lt_of_cell? w _ c0
  exact rangeAt_block r (hb.block g hlt)
def fitsB (V D H L : Int) (W : Wt) (bs : List Bk) : Bool := sidesB W.e V D && sidesB W.o V D && decide ((W.l.n : Int) = D) && decide ((W.b.n : Int) = L) && bs.all (bkB D H)
structure Wt.Ok (W : Wt) : Prop where
  e : W.e.Ok
  l : W.l.n ≤ 9223372036854775807
  o : W.o.Ok
theorem bk_one (b : Bk) : b.cells.all (·.oneCell') = true := by simp [Bk.cells, bcs, Sl.v, Value.oneCell']
theorem bk_size (b : Bk) : b.cells.size = 20 := rfl
theorem all_take {bs : List Bk} {p : Bk → Bool} {t : Nat} {x : Bk} (h : bs[t]? = some x) : (bs.take (t + 1)).all p = ((bs.take t).all p && p x) := by
  rw [List.take_add_one, h, List.all_append]; simp
/-- The error's number of numbers for a configuration. -/
def checkN (V D Hd H L : Int) (W : Wt) (bs : List Bk) : Int := if shapeN V D Hd H L ≠ 0 then shapeN V D Hd H L else if fitsB V D H L W bs = true then 0 else 4
end Go.Proofs.Ytpplnjmjldhlbaa

/- Package pass: what a layer makes of one row more, behind keys and values. -/
namespace Go.Proofs.Ytpplnjmjldhlbaa
open Go.ChangeShapes Go.WideShapes Go.ChangeAt Go.RowKit
/-- A layer's numbers. -/
structure Lay where
  F : List Int
  Q : List Int
  K : List Int
  V : List Int
  O : List Int
  S : List Int
  U : List Int
  N : List Int
def nrm (X G : List Int) (D : Nat) : List Int := tab D (normN X G D)
def apl (M V : List Int) (r c : Nat) : List Int := tab r fun i => dotN (rowN M c i) V c
def plusR (A B : List Int) (n : Nat) : List Int := tab n fun j => addN (el A j) (el B j)
def riseR (A : List Int) (n : Nat) : List Int := tab n fun j => max (el A j) 0
def keyR (L : Lay) (D : Nat) (X : List Int) : List Int := apl L.K (nrm X L.F D) D D
def valR (L : Lay) (D : Nat) (X : List Int) : List Int := apl L.V (nrm X L.F D) D D
/-- What the heads make of a row behind the rows K and V. -/
def attR (L : Lay) (D Hd : Nat) (X : List Int) (K V : List (List Int)) (m : Nat) : List Int := tab D (attEl (apl L.Q (nrm X L.F D) D D) (K ++ [keyR L D X]) (V ++ [valR L D X]) (m + 1) (D / Hd))
def midR (L : Lay) (D Hd : Nat) (X : List Int) (K V : List (List Int)) (m : Nat) : List Int := plusR X (apl L.O (attR L D Hd X K V m) D D) D
/-- What a layer makes of a row. -/
def endR (L : Lay) (D H : Nat) (Y : List Int) : List Int := plusR Y (apl L.N (riseR (apl L.U (nrm Y L.S D) H D) H) D H) D
def oneR (L : Lay) (D H Hd : Nat) (X : List Int) (K V : List (List Int)) (m : Nat) : List Int := endR L D H (midR L D Hd X K V m)
/-- A slice that reads as numbers; a matrix; a layer. -/
structure SlAt (w : World) (s : Sl) (n : Nat) (A : List Int) : Prop where
  len : s.n = n
  arg : Arg w s.ao n s.c A
def MtAt (w : World) (m : Mt) (r c : Nat) (A : List Int) : Prop := ∃ b o n ca, m = ⟨r, c, ⟨some ⟨b, o, none⟩, n, ca⟩⟩ ∧ MatAt w r c b o n ca A
structure BkAt (w : World) (D H : Nat) (b : Bk) (L : Lay) : Prop where
  f : SlAt w b.f D L.F
  q : MtAt w b.q D D L.Q
  k : MtAt w b.k D D L.K
  v : MtAt w b.v D D L.V
  o : MtAt w b.o D D L.O
  s : SlAt w b.s D L.S
  u : MtAt w b.u H D L.U
  d : MtAt w b.d D H L.N
theorem SlAt.below {w w' : World} {s : Sl} {n : Nat} {A : List Int} (h : SlAt w s n A) (hb : Below w.heap.size w w') : SlAt w' s n A := ⟨h.len, h.arg.below hb⟩
theorem MtAt.below {w w' : World} {m : Mt} {r c : Nat} {A : List Int} (h : MtAt w m r c A) (hb : Below w.heap.size w w') : MtAt w' m r c A := by
  obtain ⟨b, o, n, ca, e, M⟩ := h
  exact ⟨b, o, n, ca, e, M.below hb⟩
theorem BkAt.below {w w' : World} {D H : Nat} {b : Bk} {L : Lay} (h : BkAt w D H b L) (hb : Below w.heap.size w w') : BkAt w' D H b L :=
  ⟨h.f.below hb, h.q.below hb, h.k.below hb, h.v.below hb, h.o.below hb, h.s.below hb, h.u.below hb, h.d.below hb⟩
theorem hchkN_at {n m : Nat} {K V : List (List Int)} {h : Nat} (h1 : 1 ≤ h) (h4 : h ≤ 4) (n1 : 1 ≤ n) (n2 : n ≤ 32) (m1 : 1 ≤ m) (m2 : m ≤ 128) (hd : n % h = 0) (hk : ∀ t, t < m → (rowOf K t).length = n) (hv : ∀ t, t < m → (rowOf V t).length = n) : hchkN n m m K V (h : Int) = 0 := by
  unfold hchkN
  rw [if_neg (by omega), if_neg (by omega), if_neg (by omega), if_neg]
  rw [Int.toNat_natCast, longs_of hk, longs_of hv]
  simp [hd]
theorem rowOf_snoc_len {K : List (List Int)} {Y : List Int} {m n : Nat} (hl : K.length = m) (hk : ∀ t, t < m → (rowOf K t).length = n) (hy : Y.length = n) : ∀ t, t < m + 1 → (rowOf (K ++ [Y]) t).length = n := fun t ht => by
  unfold rowOf
  simp only [List.getD_eq_getElem?_getD]
  rcases Nat.lt_or_ge t m with h | h
  · rw [List.getElem?_append_left (by omega), ← List.getD_eq_getElem?_getD]
    exact hk t h
  · obtain rfl : t = K.length := by omega
    simp [hy]
theorem apl_len (M V : List Int) (r c : Nat) : (apl M V r c).length = r := tab_len _ _
end Go.Proofs.Ytpplnjmjldhlbaa

/- Package pass: the row of a token at a place, and how much each token is liked behind a last row. -/
namespace Go.Proofs.Ytpplnjmjldhlbaa
open Go.ChangeShapes Go.WideShapes Go.ChangeAt Go.RowKit
/-- A model's numbers. -/
structure Mdl where
  E : List Int
  Ls : List Lay
  G : List Int
  O : List Int
structure WtAt (w : World) (V D H : Nat) (W : Wt) (bs : List Bk) (M : Mdl) : Prop where
  e : MtAt w W.e V D M.E
  b : BlocksAt w W.b bs
  len : bs.length = M.Ls.length
  ls : ∀ (t : Nat) (x : Bk), bs[t]? = some x → ∃ L, M.Ls[t]? = some L ∧ BkAt w D H x L
  l : SlAt w W.l D M.G
  o : MtAt w W.o V D M.O
theorem WtAt.below {w w' : World} {V D H : Nat} {W : Wt} {bs : List Bk} {M : Mdl} (h : WtAt w V D H W bs M) (hb : Below w.heap.size w w') : WtAt w' V D H W bs M :=
  ⟨h.e.below hb, h.b.below hb, h.len, fun t x hx => let ⟨L, h1, h2⟩ := h.ls t x hx; ⟨L, h1, h2.below hb⟩, h.l.below hb, h.o.below hb⟩
/-- What is added at a place. -/
def atN (at' j : Nat) : Int := sat ((at' : Int) * ((j % 3 : Nat) : Int) * 4096)
def begR (E : List Int) (D tok at' : Nat) : List Int := tab D fun j => addN (el (rowN E D tok) j) (atN at' j)
def likR (M : Mdl) (V D : Nat) (X : List Int) : List Int := apl M.O (nrm X M.G D) V D
theorem tab_put {n : Nat} {f r : Nat → Int} {k : Nat} (hk : k < n) : (tab n (fun j => if j < k then f j else r j)).set k (f k) = tab n (fun j => if j < k + 1 then f j else r j) := by
  rw [tab_set hk]
  refine tab_congr fun j _ => ?_
  by_cases h1 : j = k
  · subst h1; rw [if_pos rfl, if_pos (by omega)]
  · rw [if_neg h1]
    by_cases h2 : j < k
    · rw [if_pos h2, if_pos (by omega)]
    · rw [if_neg h2, if_neg (by omega)]
end Go.Proofs.Ytpplnjmjldhlbaa

/- The awake check of the laws of layer 5 is true, and the document's error of a row, where the table of steps lies as the program's text lays it. -/
namespace Go.Proofs.Ytpplnjmjldhlbaa
open Go.ChangeShapes Go.WideShapes Go.ChangeAt Go.RowKit
theorem wgt_lit0 : wgt [0, -65536] 2 0 = 43690 := by decide
theorem wgt_lit1 : wgt [0, -65536] 2 1 = 21845 := by decide
theorem mean_lit : meanN [65536, 65536] 2 = 65536 := by decide
end Go.Proofs.Ytpplnjmjldhlbaa

/- What each call of the document's package for layer 2 answers, of every input in range. -/
namespace Go.Proofs.Ytpplnjmjldhlbaa
open Go.ChangeShapes Go.WideShapes Go.ChangeAt Go.RowKit
end Go.Proofs.Ytpplnjmjldhlbaa

/- What the document's steps and powers answer, of every input in range. -/
namespace Go.Proofs.Ytpplnjmjldhlbaa
open Go.ChangeShapes Go.WideShapes Go.ChangeAt Go.RowKit
theorem refs_at (l : List Value) (i : Nat) (h : i < l.length) (e : l = stp.map fun (n : Nat) => Value.int .i64 (n : Int)) : l[i]'h = .int .i64 (stepAt i : Int) := by
  subst e
  have hl : i < stp.length := by simpa using h
  simp [stepAt, hl]
theorem below3 {w w1 w2 w3 : World} (h1 : Below w.heap.size w w1) (h2 : Below w1.heap.size w1 w2) (h3 : Below w2.heap.size w2 w3) : Below w.heap.size w w3 := below_then (below_then h1 h2) h3
end Go.Proofs.Ytpplnjmjldhlbaa

/- What the document's answers for layer 5 are: means, norms and weights. -/
namespace Go.Proofs.Ytpplnjmjldhlbaa
open Go.ChangeShapes Go.WideShapes Go.ChangeAt Go.RowKit
end Go.Proofs.Ytpplnjmjldhlbaa

/- What the document's own functions for matrices answer; a copy of a matrix; the awake check of layer 4. -/
namespace Go.Proofs.Ytpplnjmjldhlbaa
open Go.ChangeShapes Go.WideShapes Go.ChangeAt Go.RowKit
theorem tab_snoc (k : Nat) (f : Nat → Int) : tab (k + 1) f = tab k f ++ [f k] := by unfold tab; rw [List.range_succ]; simp
theorem lit_row0 : el (tab 2 fun i => dotN (rowN [65536, 131072, 0, 65536] 2 i) [65536, 65536] 2) 0 = 196608 := by decide
theorem lit_row1 : el (tab 2 fun i => dotN (rowN [65536, 131072, 0, 65536] 2 i) [65536, 65536] 2) 1 = 65536 := by decide
end Go.Proofs.Ytpplnjmjldhlbaa

/- append onto a row of the call's own: the row stays in its block, or goes into a new one; all other blocks stay. -/
namespace Go.Proofs.Ytpplnjmjldhlbaa
open Go.ChangeShapes Go.WideShapes Go.ChangeAt Go.RowKit
section
variable {P : Program} (w : World)
theorem run_append_own2 (base : Nat) (t ty e : TypeId) (i : TypeInfo) (z : Value) (size bytes : Nat) (ht : P.underlying t = some (.slice e)) (hi : P.info? e = some i) (hz : i.zero = some z)
    (hsize : i.size = size) (hby : i.bytes = bytes) (hzs : z.cells.size = size) (hsz : 0 < size)
    (v : Value) (n : Nat) (xs : List Value) (hown : w.ownsRow base e size v n xs)
    (a : Addr) (m c : Nat) (news : List Value) (hl : news.length = m * size) (hnews : ∀ j u, news[j]? = some u → w.cell? (a.add j) = some u) (h1 : ∀ u ∈ news, u.oneCell' = true)
    (h63 : n + m ≤ maxLen) (hbytes : (n + m) * bytes ≤ 140737488355328) (hbase : base ≤ w.heap.size) :
    ∃ v' w', (Builtin.append_ #[t, t] ty #[v, .slice (some a) m c]).run P w = .ok v' w' ∧ w'.ownsRow base e size v' (n + m) (xs ++ news) ∧ w.grownBy w' v.ownBlock ∧
      (v' = .slice none 0 0 ↔ v = .slice none 0 0 ∧ m = 0) ∧ ∀ g', v'.ownBlock = some g' → v.ownBlock = some g' ∨ g' = w.heap.size := by
  obtain ⟨v', w', hr, h2, h3, h4⟩ := run_append_own (P := P) w base t ty e i z size bytes ht hi hz hsize hby hzs hsz v n xs hown a m c news hl hnews h1 h63 hbytes hbase
  refine ⟨v', w', hr, h2, h3, h4, ?_⟩
  subst hsize
  subst hby
  have hsmall : n + m ≤ 9223372036854775807 := by simp only [maxLen] at h63; omega
  rcases hown.2 with ⟨rfl, rfl⟩ | ⟨g, cap, cur, rfl, hbg, hg, hnc, hcm, hcs, htake⟩
  · by_cases hm : m = 0
    · have := h4.2 ⟨rfl, hm⟩
      subst this
      intro g' hg'
      cases hg'
    · have hr2 := run_append_nil (P := P) w t ty e i z ht hi hz a m c news hl hnews (by omega) (by omega) (by have hb := hbytes; simp only [Nat.zero_add] at hb; omega)
      rw [hr] at hr2
      injection hr2 with e1 e2
      subst e1
      intro g' hg'
      exact Or.inr (Option.some.inj hg').symm
  · by_cases hroom : n + m ≤ cap
    · have hfit : n * i.size + news.length ≤ cur.size := by rw [hl, hcs, ← Nat.add_mul]; exact Nat.mul_le_mul_right _ hroom
      have hr2 := run_append_room (P := P) w t ty e i ht hi g n cap cur hg a m c news hl hnews h1 hroom hfit
      rw [hr] at hr2
      injection hr2 with e1 e2
      subst e1
      intro g' hg'
      exact Or.inl hg'
    · have holds : ∀ j u, xs[j]? = some u → w.cell? ((⟨g, 0, none⟩ : Addr).add j) = some u := hown.cells (g := g) rfl
      have hr2 := run_append_grow (P := P) w t ty e i z ht hi hz ⟨g, 0, none⟩ n cap xs hown.1 holds a m c news hl hnews (by omega) (by omega) (growslice_fits (by omega) hbytes)
      rw [hr] at hr2
      injection hr2 with e1 e2
      subst e1
      intro g' hg'
      exact Or.inr (Option.some.inj hg').symm
theorem wp_append_own2 {o : Oper} {a : Act} {K : Act → World → Prop} {Q : Exit → Act → World → Prop} (s x : Operand) (t : TypeId)
    (ho : o.op = .call { callee := .builtin .append, args := #[s, x], argTypes := #[t, t] })
    (base : Nat) (e : TypeId) (i : TypeInfo) (z : Value) (size bytes : Nat) (ht : P.underlying t = some (.slice e)) (hi : P.info? e = some i) (hz : i.zero = some z)
    (hsize : i.size = size) (hby : i.bytes = bytes) (hzs : z.cells.size = size) (hsz : 0 < size)
    (v : Value) (n : Nat) (xs : List Value) (hs : a.eval s = v) (hown : w.ownsRow base e size v n xs)
    (ad : Addr) (m c : Nat) (news : List Value) (hx : a.eval x = .slice (some ad) m c) (hl : news.length = m * size) (hnews : ∀ j u, news[j]? = some u → w.cell? (ad.add j) = some u) (h1 : ∀ u ∈ news, u.oneCell' = true)
    (h63 : n + m ≤ maxLen) (hbytes : (n + m) * bytes ≤ 140737488355328) (hbase : base ≤ w.heap.size)
    (h : ∀ v' w', w'.ownsRow base e size v' (n + m) (xs ++ news) → w.grownBy w' v.ownBlock → (v' = .slice none 0 0 ↔ v = .slice none 0 0 ∧ m = 0) → (∀ g', v'.ownBlock = some g' → v.ownBlock = some g' ∨ g' = w.heap.size) → K (a.put o.dst v') w') : o.wp P a w K Q := by
  obtain ⟨v', w', hr, h2, h3, h4, h5⟩ := run_append_own2 (P := P) w base t o.type e i z size bytes ht hi hz hsize hby hzs hsz v n xs hown ad m c news hl hnews h1 h63 hbytes hbase
  unfold Oper.wp execOp
  simp only [ho, resolve, invoke, builtin, Sem.run_bind, Sem.run_pure, Result.andThen_ok, List.map_toArray, List.map_cons, List.map_nil, hs, hx, hr]
  exact h v' w' h2 h3 h4 h5
end
/-- append(out, x), out a row of the call's own, x one number: all other blocks stay. -/
theorem wpList_append_one2 {w : World} {ops : Array Oper} {rest : List Oper} {o : Oper} {a : Act} {Q : Exit → Act → World → Prop} (hgd : o.guard = none) (s x : Operand)
    (ho : o.op = .call { callee := .builtin .append, args := #[s, x], argTypes := #[72, 72] })
    (B g n cap : Nat) (A : List Int) (hs : a.eval s = .slice (some ⟨g, 0, none⟩) n cap) (hF : Fresh w B g n cap A)
    (bo : Nat) (y : Int) (hx : a.eval x = .slice (some ⟨bo, 0, none⟩) 1 1) (hX : RowAt w (some ⟨bo, 0, none⟩) 1 [y])
    (hlen : n + 1 ≤ 1048576) (hB : B ≤ w.heap.size)
    (h : ∀ g' cap' w', Fresh w' B g' (n + 1) cap' (A ++ [y]) → Below B w w' → (∀ b, b < w.heap.size → b ≠ g → w'.heap[b]? = w.heap[b]?) → (g' = g ∨ g' = w.heap.size) → wpList Try.prog ops Q rest (a.put o.dst (.slice (some ⟨g', 0, none⟩) (n + 1) cap')) w') : wpList Try.prog ops Q (o :: rest) a w := by
  obtain ⟨i0, hi, hz0, hz1, hz2⟩ := info_parts Try.infoNum
  refine wpList_plain hgd fun _ hK => wp_append_own2 w s x 72 ho B 71 i0 (.int .i32 0) 1 4 Try.underlying72 hi hz0 hz1 hz2 rfl (by decide) _ n _ hs hF.owns ⟨bo, 0, none⟩ 1 1 [.int .i32 y] hx rfl ?_ (ints_oneCell .i32 [y]) (by unfold maxLen; omega) (by omega) hB ?_
  · intro j u hj
    obtain ⟨b, o', e, hcell⟩ := hX.cells (by omega)
    simp only [Option.some.injEq, Addr.mk.injEq, and_true] at e
    obtain ⟨rfl, rfl⟩ := e
    match j, hj with
    | 0, hj =>
      have h0 := hcell 0 (by omega)
      simp at hj
      subst hj
      have e2 : (Addr.mk bo 0 none).add 0 = ⟨bo, 0 + 0, none⟩ := by simp [Addr.add]
      rw [e2, h0]
      rfl
  · intro v' w' hown hg hnil hwh
    have hb : Below B w w' := (Below.refl _ _).grown hg hB (fun k hk => by simp [Value.ownBlock] at hk; subst hk; exact hF.base)
    obtain ⟨h1, h2⟩ := hown
    rcases h2 with ⟨h3, h4⟩ | ⟨g', c', cur, hv, hr⟩
    · omega
    · subst hv
      have e : A.map (Value.int .i32) ++ [.int .i32 y] = (A ++ [y]).map (Value.int .i32) := by simp
      rw [e] at h1 hr
      obtain ⟨g2, e2, F⟩ := fresh_of_owns (w := w') (B := B) (n := n + 1) (cap := c') (ao := some ⟨g', 0, none⟩) (A := A ++ [y]) ⟨h1, Or.inr ⟨g', c', cur, rfl, hr⟩⟩ (hF.small.append hX.small) (by simp)
      simp only [Option.some.injEq, Addr.mk.injEq, and_true] at e2
      subst e2
      refine hK _ _ (h g' c' w' F hb (fun b hb2 hne => hg.block b hb2 (fun e => hne (Option.some.inj e))) ?_)
      rcases hwh g' rfl with hq | hq
      · exact Or.inl (Option.some.inj hq).symm
      · exact Or.inr hq
end Go.Proofs.Ytpplnjmjldhlbaa

/- The document's layer 8: plus, and the row of a token at a place. -/
namespace Go.Proofs.Ytpplnjmjldhlbaa
open Go.ChangeShapes Go.WideShapes Go.ChangeAt Go.RowKit
theorem w64_in {x : Int} (h : -9223372036854775808 ≤ x ∧ x ≤ 9223372036854775807) : IntKind.i64.wrap x = x := by
  rw [IntKind.wrap_i64]; omega
end Go.Proofs.Ytpplnjmjldhlbaa

/- Rows of whole numbers in memory; what hangs on new blocks alone. -/
namespace Go.Proofs.Ytpplnjmjldhlbaa
open Go.ChangeShapes Go.WideShapes Go.ChangeAt Go.RowKit
/-- In w the slice of whole numbers that begins at ao reads as A. -/
structure IRowAt (w : World) (ao : Option Addr) (n : Nat) (A : List Int) : Prop where
  len : A.length = n
  max : n ≤ 9223372036854775807
  small : ∀ k, -9223372036854775808 ≤ el A k ∧ el A k ≤ 9223372036854775807
  cells : 0 < n → ∃ b o, ao = some ⟨b, o, none⟩ ∧ ∀ t, t < n → w.cell? ⟨b, o + t, none⟩ = some (.int .i64 (el A t))
structure IArg (w : World) (ao : Option Addr) (n ca : Nat) (A : List Int) : Prop where
  row : IRowAt w ao n A
  fit : n ≤ ca
  max : ca ≤ 9223372036854775807
  nil : ao = none → ca = 0
theorem IRowAt.below {w w' : World} {ao : Option Addr} {n : Nat} {A : List Int} (h : IRowAt w ao n A) (hb : Below w.heap.size w w') : IRowAt w' ao n A := by
  refine ⟨h.len, h.max, h.small, fun hn => ?_⟩
  obtain ⟨b, o, e, hc⟩ := h.cells hn
  refine ⟨b, o, e, fun t ht => ?_⟩
  have h1 := hc t ht
  have hlt : b < w.heap.size := by simpa using World.block_lt_of_cell? w _ h1
  rw [hb.cell (by exact hlt)]
  exact h1
theorem IArg.below {w w' : World} {ao : Option Addr} {n ca : Nat} {A : List Int} (h : IArg w ao n ca A) (hb : Below w.heap.size w w') : IArg w' ao n ca A := ⟨h.row.below hb, h.fit, h.max, h.nil⟩
theorem iarg_nil (w : World) : IArg w none 0 0 [] := ⟨⟨rfl, by omega, fun k => by simp [el], fun h => by omega⟩, by omega, by omega, fun _ => rfl⟩
theorem IRowAt.vals {w : World} {ad : Addr} {n : Nat} {A : List Int} (h : IRowAt w (some ad) n A) : ∀ j u, (A.map (Value.int .i64))[j]? = some u → w.cell? (ad.add j) = some u := by
  intro j u hj
  have hl := h.len
  have hjm : j < n := by
    have := (List.getElem?_eq_some_iff.1 hj).1
    simpa [hl] using this
  obtain ⟨b, o', e, hcell⟩ := h.cells (by omega)
  simp only [Option.some.injEq] at e
  subst e
  have e2 : (Addr.mk b o' none).add j = ⟨b, o' + j, none⟩ := by simp [Addr.add]
  rw [e2, hcell j hjm]
  rw [List.getElem?_map, List.getElem?_eq_getElem (show j < A.length by omega)] at hj
  simp only [Option.map_some, Option.some.injEq] at hj
  rw [← hj]
  unfold el
  simp [List.getD_eq_getElem?_getD, List.getElem?_eq_getElem (show j < A.length by omega)]
/-- A row of whole numbers of the call's own. -/
def IOwn (w : World) (B : Nat) (v : Value) (n : Nat) (A : List Int) : Prop := w.ownsRow B 3 1 v n (A.map (Value.int .i64))
theorem Try.infoInt : (Try.prog.info? 3).map (fun i => (i.zero, i.size, i.bytes)) = some (some (.int .i64 0), 1, 8) := by kernel_rfl
theorem IOwn.arg {w : World} {B : Nat} {v : Value} {n : Nat} {A : List Int} (h : IOwn w B v n A) (hs : ∀ k, -9223372036854775808 ≤ el A k ∧ el A k ≤ 9223372036854775807) : ∃ ao c, v = .slice ao n c ∧ IArg w ao n c A := by
  have hl : A.length = n := by have := h.1; simpa using this
  rcases h.2 with ⟨h3, h4⟩ | ⟨g, cap, cur, hv, hg, hh, h5, h6, h7, h8⟩
  · subst h4
    obtain rfl : A = [] := List.length_eq_zero_iff.1 hl
    exact ⟨none, 0, h3, iarg_nil w⟩
  · subst hv
    have hm : cap ≤ 9223372036854775807 := by simpa [maxLen] using h6
    refine ⟨_, _, rfl, ⟨hl, by omega, hs, fun hn => ⟨g, 0, rfl, fun t ht => ?_⟩⟩, h5, hm, fun h => by cases h⟩
    have hc := World.ownsRow.cells h (g := g) rfl t (.int .i64 (el A t)) (by
      rw [List.getElem?_map, List.getElem?_eq_getElem (show t < A.length by omega)]
      unfold el
      simp [List.getD_eq_getElem?_getD, List.getElem?_eq_getElem (show t < A.length by omega)])
    have e2 : (Addr.mk g 0 none).add t = ⟨g, t, none⟩ := by simp [Addr.add]; intro h; exact h.symm
    rw [e2] at hc
    rw [Nat.zero_add]
    exact hc
theorem iclone_any (ao : Option Addr) (n ca : Nat) (A : List Int) (w : World) (hA : IArg w ao n ca A) (hn : n ≤ 1048576) :
   Calls Try.prog 36 #[.slice ao n ca] w fun e w' => ∃ v, e = .returned v ∧ IOwn w' w.heap.size v n A ∧ Below w.heap.size w w' := by
  cases ao with
  | none =>
    have hc0 := hA.nil rfl
    subst hc0
    obtain rfl : n = 0 := by have := hA.fit; omega
    obtain rfl : A = [] := List.length_eq_zero_iff.1 hA.row.len
    have hq : ∀ w : World, (binOp .eql 24 (.slice none 0 0) (.slice none 0 0)).run Try.prog w = .ok (.bool true) w := fun w => run_eql_nil w _ 3 _ _ _ Try.underlying24
    go_enter Try.func36, Try.ntmps36
    go_wp2
    go_ret
    exact ⟨_, rfl, World.ownsRow_nil _ _ _ _, Below.refl _ _⟩
  | some ad =>
    obtain ⟨i0, hi, hz0, hz1, hz2⟩ := info_parts Try.infoInt
    have B0 : Below w.heap.size w (w.alloc (.cells #[] 3)) := (Below.refl _ _).alloc (Nat.le_refl _) _
    have O0 : (w.alloc (.cells #[] 3)).ownsRow w.heap.size 3 1 (.slice (some ⟨w.heap.size, 0, none⟩) 0 0) 0 [] := World.ownsRow_made w #[] 0 (Nat.le_refl _) (by decide) rfl
    have hv2 := (hA.row.below B0).vals
    have hl := hA.row.len
    have hq : ∀ w : World, (binOp .eql 24 (.slice (some ad) n ca) (.slice none 0 0)).run Try.prog w = .ok (.bool false) w := fun w => run_eql_nil w _ 3 _ _ _ Try.underlying24
    go_enter Try.func36, Try.ntmps36
    go_wp2_with (at_builtin; refine wpList_append_own _ rfl _ _ 24 rfl w.heap.size 3 i0 (.int .i64 0) 1 8 Try.underlying24 hi hz0 hz1 hz2 rfl (by decide) _ 0 [] rfl O0 ad n ca (A.map (Value.int .i64)) rfl (by simp [hl]) hv2 (ints_oneCell _ _) (by unfold maxLen; omega) (by omega) (by simp) ?_; intro v' w' O1 G1 N1)
    have hb : Below w.heap.size (w.alloc (.cells #[] 3)) w' := (Below.refl _ _).grown G1 (by simp) (fun k hk => (O0.lt k hk).1)
    rw [Nat.zero_add, List.nil_append] at O1
    go_ret
    exact ⟨v', rfl, O1, B0.trans hb⟩
/-- Φ hangs on those blocks alone that p tells. -/
def Hangs (p : Nat → Prop) (w : World) (Φ : World → Prop) : Prop := ∀ w2 : World, (∀ b, p b → b < w.heap.size → w2.heap[b]? = w.heap[b]?) → Φ w2
theorem Hangs.now {p : Nat → Prop} {w : World} {Φ : World → Prop} (h : Hangs p w Φ) : Φ w := h w fun _ _ _ => rfl
theorem Hangs.below {p : Nat → Prop} {w w' : World} {Φ : World → Prop} (h : Hangs p w Φ) (hb : Below w.heap.size w w') : Hangs p w' Φ := fun w2 h2 =>
  h w2 fun b h3 h4 => (h2 b h3 (Nat.lt_of_lt_of_le h4 hb.size)).trans (hb.block b h4)
theorem Hangs.mono {p q : Nat → Prop} {w : World} {Φ : World → Prop} (h : Hangs p w Φ) (hq : ∀ b, b < w.heap.size → p b → q b) : Hangs q w Φ := fun w2 h2 => h w2 fun b h3 h4 => h2 b (hq b h4 h3) h4
theorem Hangs.other {p : Nat → Prop} {w w' : World} {Φ : World → Prop} (h : Hangs p w Φ) (hs : w'.heap.size = w.heap.size) (ho : ∀ b, p b → w'.heap[b]? = w.heap[b]?) : Hangs p w' Φ := fun w2 h2 =>
  h w2 fun b h3 h4 => (h2 b h3 (by rw [hs]; exact h4)).trans (ho b h3)
theorem Hangs.set {p : Nat → Prop} {w : World} {Φ : World → Prop} (h : Hangs p w Φ) {a : Addr} (ha : ¬ p a.block) (v : Value) : Hangs p (w.setCell a v) Φ :=
  h.other (by simp [World.setCell]) fun b hb => Below.heap_setCell _ _ _ _ (fun e => ha (by rw [← e]; exact hb))
theorem Hangs.row {p : Nat → Prop} {w : World} {Φ : World → Prop} (h : Hangs p w Φ) {g : Nat} (ha : ¬ p g) (cs : Array Value) : Hangs p (w.setRow g cs) Φ :=
  h.other (by simp [World.setRow]) fun b hb => setRow_other _ _ _ _ (fun e => ha (by rw [← e]; exact hb))
theorem Hangs.imp {p : Nat → Prop} {w : World} {Φ Ψ : World → Prop} (h : Hangs p w Φ) (hi : ∀ w, Φ w → Ψ w) : Hangs p w Ψ := fun w2 h2 => hi _ (h w2 h2)
/-- Φ hangs on the blocks from B on alone. -/
def New (B : Nat) (w : World) (Φ : World → Prop) : Prop := Hangs (fun b => B ≤ b) w Φ
theorem New.mono {B B' : Nat} {w : World} {Φ : World → Prop} (h : New B w Φ) (hB : B' ≤ B) : New B' w Φ := Hangs.mono h fun _ _ h => Nat.le_trans hB h
theorem New.now {B : Nat} {w : World} {Φ : World → Prop} (h : New B w Φ) : Φ w := Hangs.now h
theorem New.below {B : Nat} {w w' : World} {Φ : World → Prop} (h : New B w Φ) (hb : Below w.heap.size w w') : New B w' Φ := Hangs.below h hb
theorem New.set {B : Nat} {w : World} {Φ : World → Prop} (h : New B w Φ) {a : Addr} (ha : a.block < B) (v : Value) : New B (w.setCell a v) Φ := Hangs.set h (by omega) v
theorem New.row {B : Nat} {w : World} {Φ : World → Prop} (h : New B w Φ) {g : Nat} (ha : g < B) (cs : Array Value) : New B (w.setRow g cs) Φ := Hangs.row h (by omega) cs
theorem New.imp {B : Nat} {w : World} {Φ Ψ : World → Prop} (h : New B w Φ) (hi : ∀ w, Φ w → Ψ w) : New B w Ψ := Hangs.imp h hi
theorem Fresh.hangs {w : World} {B g n cap : Nat} {A : List Int} (h : Fresh w B g n cap A) : Hangs (fun b => b = g) w fun w => Fresh w B g n cap A := fun _ h2 => h.of_block (h2 g rfl h.lt)
theorem Fresh.new {w : World} {B g n cap : Nat} {A : List Int} (h : Fresh w B g n cap A) : New B w fun w => Fresh w B g n cap A := h.hangs.mono fun b _ e => by rw [e]; exact h.base
/-- A copy of a row. -/
theorem clone_arg (ao : Option Addr) (n ca : Nat) (A : List Int) (w : World) (hA : Arg w ao n ca A) (hn : n ≤ 1048576) :
   Calls Try.prog 54 #[.slice ao n ca] w fun e w' => ∃ ao' c', e = .returned (.slice ao' n c') ∧ New w.heap.size w' (fun w => Arg w ao' n c' A) ∧ Below w.heap.size w w' := by
  cases ao with
  | none =>
    have hc0 := hA.nil rfl
    subst hc0
    obtain rfl : n = 0 := by have := hA.fit; omega
    obtain rfl : A = [] := List.length_eq_zero_iff.1 hA.row.len
    have hq : ∀ w : World, (binOp .eql 72 (.slice none 0 0) (.slice none 0 0)).run Try.prog w = .ok (.bool true) w := fun w => run_eql_nil w _ 71 _ _ _ Try.underlying72
    go_enter Try.func54, Try.ntmps54
    go_wp2
    go_ret
    exact ⟨none, 0, rfl, fun _ _ => ⟨RowAt.nil _ _, by omega, by omega, (fun _ => rfl), fun _ _ e => by cases e⟩, Below.refl _ _⟩
  | some ad =>
    have F0 := fresh_empty w
    have B0 : Below w.heap.size w (w.alloc (.cells #[] 71)) := (Below.refl _ _).alloc (Nat.le_refl _) _
    have R := hA.row.below B0
    have hq : ∀ w : World, (binOp .eql 72 (.slice (some ad) n ca) (.slice none 0 0)).run Try.prog w = .ok (.bool false) w := fun w => run_eql_nil w _ 71 _ _ _ Try.underlying72
    clear hA
    go_enter Try.func54, Try.ntmps54
    go_wp2_with (at_builtin; refine wpList_append_row rfl _ _ rfl w.heap.size w.heap.size 0 0 [] rfl F0 (some ad) n ca A rfl R (fun h => by cases h) (by omega) (by simp) ?_; intro g' cap' w' F1 B1)
    rw [Nat.zero_add, List.nil_append] at *
    go_ret
    exact ⟨_, _, rfl, F1.new.imp fun w h => h.arg, B0.trans B1⟩
end Go.Proofs.Ytpplnjmjldhlbaa

/- append onto a row of the call's own: the row that was there stays as it was. -/
namespace Go.Proofs.Ytpplnjmjldhlbaa
open Go.ChangeShapes Go.WideShapes Go.ChangeAt Go.RowKit
section
variable {P : Program} (w : World)
theorem run_append_own3 (base : Nat) (t ty e : TypeId) (i : TypeInfo) (z : Value) (bytes : Nat) (ht : P.underlying t = some (.slice e)) (hi : P.info? e = some i) (hz : i.zero = some z)
    (hsize : i.size = 1) (hby : i.bytes = bytes) (hzs : z.cells.size = 1)
    (v : Value) (n : Nat) (xs : List Value) (hown : w.ownsRow base e 1 v n xs)
    (a : Addr) (m c : Nat) (news : List Value) (hl : news.length = m) (hnews : ∀ j u, news[j]? = some u → w.cell? (a.add j) = some u) (h1 : ∀ u ∈ news, u.oneCell' = true)
    (h63 : n + m ≤ maxLen) (hbytes : (n + m) * bytes ≤ 140737488355328) (hbase : base ≤ w.heap.size) :
    ∃ v' w', (Builtin.append_ #[t, t] ty #[v, .slice (some a) m c]).run P w = .ok v' w' ∧ w'.ownsRow base e 1 v' (n + m) (xs ++ news) ∧ w.grownBy w' v.ownBlock ∧ w'.ownsRow base e 1 v n xs := by
  obtain ⟨v', w', hr, h2, h3, h4⟩ := run_append_own (P := P) w base t ty e i z 1 bytes ht hi hz hsize hby hzs (by decide) v n xs hown a m c news (by omega) hnews h1 h63 hbytes hbase
  refine ⟨v', w', hr, h2, h3, ?_⟩
  have hl1 : news.length = m * i.size := by rw [hsize]; omega
  subst hby
  have hsmall : n + m ≤ 9223372036854775807 := by simp only [maxLen] at h63; omega
  rcases hown.2 with ⟨rfl, rfl⟩ | ⟨g, cap, cur, rfl, hbg, hg, hnc, hcm, hcs, htake⟩
  · have hx : xs = [] := List.eq_nil_of_length_eq_zero (by simpa using hown.1)
    subst hx
    exact World.ownsRow_nil _ _ _ _
  · have hxl : xs.length = n := by have := hown.1; omega
    by_cases hroom : n + m ≤ cap
    · have hfit : n * i.size + news.length ≤ cur.size := by rw [hl, hcs, hsize]; omega
      have hr2 := run_append_room (P := P) w t ty e i ht hi g n cap cur hg a m c news hl1 hnews h1 hroom hfit
      rw [hr] at hr2
      injection hr2 with e1 e2
      subst e2
      refine ⟨hown.1, .inr ⟨g, cap, _, rfl, hbg, setRow_heap w g cur _ e _ hg, hnc, hcm, ?_, ?_⟩⟩
      · simp only [List.size_toArray, List.length_append, List.length_take, List.length_drop, Array.length_toList, hsize]
        omega
      · rw [hsize]
        rw [htake, List.append_assoc, ← hown.1]
        exact List.take_left
    · have holds : ∀ j u, xs[j]? = some u → w.cell? ((⟨g, 0, none⟩ : Addr).add j) = some u := hown.cells (g := g) rfl
      have hr2 := run_append_grow (P := P) w t ty e i z ht hi hz ⟨g, 0, none⟩ n cap xs (by rw [hsize]; omega) holds a m c news hl1 hnews (by omega) (by omega) (growslice_fits (by omega) hbytes)
      rw [hr] at hr2
      injection hr2 with e1 e2
      subst e2
      have hlt : g < w.heap.size := (Array.getElem?_eq_some_iff.1 hg).1
      exact ⟨hown.1, .inr ⟨g, cap, cur, rfl, hbg, (heap_alloc_old w.drew _ hlt).trans hg, hnc, hcm, hcs, htake⟩⟩
end
/-- append(out, x), out a row of whole numbers of the call's own, as one operation. -/
theorem wp_append_int {w : World} {o : Oper} {a : Act} {K : Act → World → Prop} {Q : Exit → Act → World → Prop} (s x : Operand) (ho : o.op = .call { callee := .builtin .append, args := #[s, x], argTypes := #[24, 24] })
    (B : Nat) (v : Value) (n : Nat) (A : List Int) (hs : a.eval s = v) (hown : IOwn w B v n A) (bo : Nat) (y : Int) (hx : a.eval x = .slice (some ⟨bo, 0, none⟩) 1 1) (hX : w.cell? ⟨bo, 0, none⟩ = some (.int .i64 y)) (hn : n ≤ 4096) (hB : B ≤ w.heap.size)
    (h : ∀ v' w', IOwn w' B v' (n + 1) (A ++ [y]) → IOwn w' B v n A → w.grownBy w' v.ownBlock → Below B w w' → K (a.put o.dst v') w') : o.wp Try.prog a w K Q := by
  obtain ⟨i0, hi, hz0, hz1, hz2⟩ := info_parts Try.infoInt
  have hnews : ∀ j u, ([y].map (Value.int .i64))[j]? = some u → w.cell? ((Addr.mk bo 0 none).add j) = some u := by
    intro j u hj
    match j, hj with
    | 0, hj =>
      simp at hj
      subst hj
      have e2 : (Addr.mk bo 0 none).add 0 = ⟨bo, 0, none⟩ := by simp [Addr.add]
      rw [e2, hX]
  obtain ⟨v', w', hr, h2, h3, h4⟩ := run_append_own3 (P := Try.prog) w B 24 o.type 3 i0 (.int .i64 0) 8 Try.underlying24 hi hz0 hz1 hz2 rfl v n _ hown ⟨bo, 0, none⟩ 1 1 ([y].map (Value.int .i64)) rfl hnews (ints_oneCell _ _) (by unfold maxLen; omega) (by omega) hB
  unfold Oper.wp execOp
  simp only [ho, resolve, invoke, builtin, Sem.run_bind, Sem.run_pure, Result.andThen_ok, List.map_toArray, List.map_cons, List.map_nil, hs, hx, hr]
  exact h v' w' (by unfold IOwn; rw [List.map_append]; exact h2) h4 h3 ((Below.refl _ _).grown h3 hB (fun k hk => (hown.lt k hk).1))
/-- An operation that is wanted. -/
theorem wpList_run {w : World} {ops : Array Oper} {rest : List Oper} {o : Oper} {a : Act} {Q : Exit → Act → World → Prop} (hw : Region.wanted o (yielded ops a.tmps) = true) (h : ∀ K, (∀ a w, wpList Try.prog ops Q rest a w → K a w) → Oper.wp Try.prog o a w K Q) : wpList Try.prog ops Q (o :: rest) a w := by
  simp only [wpList, hw, if_true]
  exact Or.inl (h _ fun a w h => h)
end Go.Proofs.Ytpplnjmjldhlbaa

/- Package step: copies of rows and of lists of rows. -/
namespace Go.Proofs.Ytpplnjmjldhlbaa
open Go.ChangeShapes Go.WideShapes Go.ChangeAt Go.RowKit
/-- Block g is filled up to place k with rows that hang on newer blocks alone. -/
structure FillTo (w : World) (g m k : Nat) (R : List (List Int)) : Prop where
  row : ∃ cs : Array Value, w.heap[g]? = some (.cells cs 72 (0, 0)) ∧ cs.size = m ∧ ∀ t, t < k → ∃ ro n c, cs[t]? = some (.slice ro n c) ∧ New (g + 1) w (fun w => Arg w ro n c (rowOf R t))
theorem FillTo.lt {w : World} {g m k : Nat} {R : List (List Int)} (h : FillTo w g m k R) : g < w.heap.size := by
  obtain ⟨cs, h1, _⟩ := h.row
  exact (Array.getElem?_eq_some_iff.1 h1).1
theorem FillTo.below {w w' : World} {g m k : Nat} {R : List (List Int)} (h : FillTo w g m k R) (hb : Below w.heap.size w w') : FillTo w' g m k R := by
  have hl := h.lt
  obtain ⟨cs, h1, h2, h3⟩ := h.row
  exact ⟨cs, (hb.block g hl).trans h1, h2, fun t ht => let ⟨ro, n, c, e, N⟩ := h3 t ht; ⟨ro, n, c, e, N.below hb⟩⟩
theorem FillTo.frozen {w : World} {g m k : Nat} {R : List (List Int)} (h : FillTo w g m k R) (t : Nat) : w.frozen? ⟨g, t, none⟩ = false := by
  obtain ⟨cs, h1, _⟩ := h.row
  unfold World.frozen?; simp only [h1]; rfl
theorem FillTo.cell {w : World} {g m k : Nat} {R : List (List Int)} (h : FillTo w g m k R) {t : Nat} (ht : t < m) : ∃ v, w.cell? ⟨g, t, none⟩ = some v := by
  obtain ⟨cs, h1, h2, _⟩ := h.row
  refine ⟨cs[t]'(by omega), ?_⟩
  unfold World.cell?; simp only [h1]
  exact Array.getElem?_eq_getElem (by omega)
theorem FillTo.step {w : World} {g m k : Nat} {R : List (List Int)} (h : FillTo w g m k R) (hk : k < m) {ro : Option Addr} {n c : Nat} (hA : New (g + 1) w fun w => Arg w ro n c (rowOf R k)) : FillTo (w.setCell ⟨g, k, none⟩ (.slice ro n c)) g m (k + 1) R := by
  obtain ⟨cs, h1, h2, h3⟩ := h.row
  refine ⟨cs.setIfInBounds k (.slice ro n c), by simp [World.setCell, Array.getElem?_modify, h1], by simpa using h2, fun t ht => ?_⟩
  rw [Array.getElem?_setIfInBounds]
  by_cases e : k = t
  · subst e
    rw [if_pos rfl, if_pos (by omega)]
    exact ⟨ro, n, c, rfl, hA.set (by show g < g + 1; omega) _⟩
  · rw [if_neg e]
    obtain ⟨ro', n', c', e2, N⟩ := h3 t (by omega)
    exact ⟨ro', n', c', e2, N.set (by show g < g + 1; omega) _⟩
theorem fillTo_made (w : World) (m : Nat) (R : List (List Int)) : FillTo (w.alloc (.cells (madeCells #[.slice none 0 0] m) 72)) w.heap.size m 0 R :=
  ⟨_, heap_alloc_new _ _, by simp [madeCells], fun t ht => by omega⟩
/-- In w the slice of n rows that begins at ro has the values vs, and they read as R. -/
structure GridV (w : World) (ro : Option Addr) (n : Nat) (vs : List Value) (R : List (List Int)) : Prop where
  rows : RowsAt w vs R
  len : vs.length = n
  max : n ≤ 9223372036854775807
  cells : 0 < n → ∃ b o, ro = some ⟨b, o, none⟩ ∧ ∀ j u, vs[j]? = some u → w.cell? ⟨b, o + j, none⟩ = some u
theorem GridV.grid {w : World} {ro : Option Addr} {n : Nat} {vs : List Value} {R : List (List Int)} (h : GridV w ro n vs R) : GridAt w ro n R := by
  have hl : R.length = n := by rw [← h.len, h.rows.len]
  refine ⟨hl, h.max, fun hn => ?_⟩
  obtain ⟨b, o, e, hc⟩ := h.cells hn
  refine ⟨b, o, e, fun t ht => ?_⟩
  obtain ⟨r, m, c, e2, A⟩ := h.rows.rows t (by omega)
  exact ⟨r, m, c, hc t _ e2, A⟩
theorem gridV_nil (w : World) (ro : Option Addr) : GridV w ro 0 [] [] := ⟨⟨rfl, fun t ht => by simp at ht⟩, rfl, by omega, fun h => by omega⟩
/-- A whole list of rows hangs on its own blocks alone. -/
theorem FillTo.grid {w : World} {g m : Nat} {R : List (List Int)} (h : FillTo w g m m R) (hl : R.length = m) (hm : m ≤ 9223372036854775807) {B : Nat} (hB : B ≤ g) : ∃ vs, New B w fun w => GridV w (some ⟨g, 0, none⟩) m vs R := by
  have hlt := h.lt
  obtain ⟨cs, h1, hsz, h3⟩ := h.row
  refine ⟨cs.toList, fun w2 h2 => ?_⟩
  have hg := (h2 g hB hlt).trans h1
  refine ⟨⟨by simp [hsz, hl], fun t ht => ?_⟩, by simp [hsz], hm, fun _ => ⟨g, 0, rfl, fun j u hj => ?_⟩⟩
  · obtain ⟨ro, n, c, e, N⟩ := h3 t (by omega)
    exact ⟨ro, n, c, by simpa using e, N w2 fun b hb hb2 => h2 b (Nat.le_trans (by omega) hb) hb2⟩
  · rw [Nat.zero_add]
    unfold World.cell?
    simp only [hg]
    simpa using hj
/-- In w the slice of lists that begins at ao reads as C. -/
structure CubeAt (w : World) (ao : Option Addr) (m : Nat) (C : List (List (List Int))) : Prop where
  len : C.length = m
  max : m ≤ 9223372036854775807
  cells : 0 < m → ∃ b o, ao = some ⟨b, o, none⟩ ∧ ∀ (t : Nat) (R : List (List Int)), C[t]? = some R → ∃ ro n c, w.cell? ⟨b, o + t, none⟩ = some (.slice ro n c) ∧ (ro = none → c = 0) ∧ n ≤ c ∧ c ≤ 9223372036854775807 ∧ GridAt w ro n R
theorem CubeAt.below {w w' : World} {ao : Option Addr} {m : Nat} {C : List (List (List Int))} (h : CubeAt w ao m C) (hb : Below w.heap.size w w') : CubeAt w' ao m C := by
  refine ⟨h.len, h.max, fun hn => ?_⟩
  obtain ⟨b, o, e, hc⟩ := h.cells hn
  refine ⟨b, o, e, fun t R hR => ?_⟩
  obtain ⟨ro, n, c, h1, h2, h3, h4, h5⟩ := hc t R hR
  have hlt : b < w.heap.size := by simpa using World.block_lt_of_cell? w _ h1
  exact ⟨ro, n, c, by rw [hb.cell (by exact hlt)]; exact h1, h2, h3, h4, h5.below hb⟩
/-- The block g of lists, filled up to place k with full lists that hang on newer blocks alone. -/
structure Lists (w : World) (g m k : Nat) (C : List (List (List Int))) : Prop where
  row : ∃ cs : Array Value, w.heap[g]? = some (.cells cs 73 (0, 0)) ∧ cs.size = m ∧ ∀ (t : Nat) (R : List (List Int)), t < k → C[t]? = some R → ∃ ro n vs, cs[t]? = some (.slice ro n n) ∧ (ro = none → n = 0) ∧ New (g + 1) w (fun w => GridV w ro n vs R)
theorem Lists.lt {w : World} {g m k : Nat} {C : List (List (List Int))} (h : Lists w g m k C) : g < w.heap.size := by
  obtain ⟨cs, h1, _⟩ := h.row
  exact (Array.getElem?_eq_some_iff.1 h1).1
theorem Lists.below {w w' : World} {g m k : Nat} {C : List (List (List Int))} (h : Lists w g m k C) (hb : Below w.heap.size w w') : Lists w' g m k C := by
  have hl := h.lt
  obtain ⟨cs, h1, h2, h3⟩ := h.row
  exact ⟨cs, (hb.block g hl).trans h1, h2, fun t R ht hR => let ⟨ro, n, vs, e, h4, N⟩ := h3 t R ht hR; ⟨ro, n, vs, e, h4, N.below hb⟩⟩
theorem Lists.frozen {w : World} {g m k : Nat} {C : List (List (List Int))} (h : Lists w g m k C) (t : Nat) : w.frozen? ⟨g, t, none⟩ = false := by
  obtain ⟨cs, h1, _⟩ := h.row
  unfold World.frozen?; simp only [h1]; rfl
theorem Lists.cell {w : World} {g m k : Nat} {C : List (List (List Int))} (h : Lists w g m k C) {t : Nat} (ht : t < m) : ∃ v, w.cell? ⟨g, t, none⟩ = some v := by
  obtain ⟨cs, h1, h2, _⟩ := h.row
  refine ⟨cs[t]'(by omega), ?_⟩
  unfold World.cell?; simp only [h1]
  exact Array.getElem?_eq_getElem (by omega)
theorem Lists.step {w : World} {g m k : Nat} {C : List (List (List Int))} (h : Lists w g m k C) (hk : k < m) {ro : Option Addr} {n : Nat} {vs : List Value} {R : List (List Int)} (hR : C[k]? = some R) (hn : ro = none → n = 0) (hA : New (g + 1) w fun w => GridV w ro n vs R) : Lists (w.setCell ⟨g, k, none⟩ (.slice ro n n)) g m (k + 1) C := by
  obtain ⟨cs, h1, h2, h3⟩ := h.row
  refine ⟨cs.setIfInBounds k (.slice ro n n), by simp [World.setCell, Array.getElem?_modify, h1], by simpa using h2, fun t R' ht hR' => ?_⟩
  rw [Array.getElem?_setIfInBounds]
  by_cases e : k = t
  · subst e
    rw [hR] at hR'
    simp only [Option.some.injEq] at hR'
    subst hR'
    rw [if_pos rfl, if_pos (by omega)]
    exact ⟨ro, n, vs, rfl, hn, hA.set (by show g < g + 1; omega) _⟩
  · rw [if_neg e]
    obtain ⟨ro', n', vs', e2, h4, N⟩ := h3 t R' (by omega) hR'
    exact ⟨ro', n', vs', e2, h4, N.set (by show g < g + 1; omega) _⟩
theorem lists_made (w : World) (m : Nat) (C : List (List (List Int))) : Lists (w.alloc (.cells (madeCells #[.slice none 0 0] m) 73)) w.heap.size m 0 C :=
  ⟨_, heap_alloc_new _ _, by simp [madeCells], fun t R ht => by omega⟩
theorem Try.infoList : (Try.prog.info? 73).map (fun i => (i.zero, i.size, i.bytes)) = some (some (.slice none 0 0), 1, 24) := by kernel_rfl
end Go.Proofs.Ytpplnjmjldhlbaa

/- Package step: which tokens and lists fit; a view's copy. -/
namespace Go.Proofs.Ytpplnjmjldhlbaa
open Go.ChangeShapes Go.WideShapes Go.ChangeAt Go.RowKit
/-- Is it a token? -/
def tokB (V x : Int) : Bool := decide (0 ≤ x ∧ x < V)
/-- The error's number of a row of tokens that are asked for. -/
def promptN (V : Int) (A : List Int) : Int := if A.length = 0 then 8 else if 128 < A.length then 2 else if A.all (tokB V) = true then 0 else 7
theorem all_take_el {A : List Int} {k : Nat} {p : Int → Bool} (hk : k < A.length) : (A.take (k + 1)).all p = ((A.take k).all p && p (el A k)) := by
  have e : A[k]? = some (el A k) := by unfold el; simp [List.getD_eq_getElem?_getD, List.getElem?_eq_getElem hk]
  rw [List.take_add_one, e, List.all_append]; simp
theorem all_el {A : List Int} {p : Int → Bool} {k : Nat} (hk : k < A.length) (h : A.all p = true) : p (el A k) = true := by
  have := List.all_eq_true.1 h (el A k) (el_mem hk)
  exact this
theorem all_not {A : List Int} {p : Int → Bool} {k : Nat} (hk : k < A.length) (h : p (el A k) = false) : A.all p = false := by
  cases e : A.all p with
  | false => rfl
  | true => rw [all_el hk e] at h; cases h
theorem isToken_any (V D Hd H L : Int) (x : Int) (w : World) :
   Calls Try.prog 47 #[.agg (cfgC V D Hd H L), .int .i64 x] w fun e w' => e = .returned (.bool (tokB V x)) ∧ Below w.heap.size w w' := by
  have X0 := blk_new w 23 (cfgC V D Hd H L)
  have B0 : Below w.heap.size w (w.alloc (.cells (cfgC V D Hd H L) 23)) := (Below.refl _ _).alloc (Nat.le_refl _) _
  unfold cfgC at *
  generalize hw0 : w.alloc (.cells #[.int .i64 V, .int .i64 D, .int .i64 Hd, .int .i64 H, .int .i64 L] 23) = w0 at *
  have a0 : w0.cell? ⟨w.heap.size, 0, none⟩ = some (.int .i64 V) := X0.cell 0 rfl
  have HT : Hid (tokB V x = decide (0 ≤ x ∧ x < V)) := rfl
  generalize tokB V x = res at *
  by_cases h2 : x < 0
  · have HR : Hid (res = false) := by show _ = _; rw [HT.out]; exact decide_eq_false (by omega)
    clear HT
    go_enter Try.func47, Try.ntmps47
    go_wp2
    go_ret
    exact ⟨by rw [HR.out]; rfl, B0⟩
  · by_cases h3 : V ≤ x
    · have HR : Hid (res = false) := by show _ = _; rw [HT.out]; exact decide_eq_false (by omega)
      have h3' : ¬ x < V := by omega
      clear HT
      go_enter Try.func47, Try.ntmps47
      go_wp2
      go_ret
      exact ⟨by rw [HR.out]; rfl, B0⟩
    · have HR : Hid (res = true) := by show _ = _; rw [HT.out]; exact decide_eq_true (by omega)
      clear HT
      go_enter Try.func47, Try.ntmps47
      go_wp2
      go_ret
      exact ⟨by rw [HR.out]; rfl, B0⟩
set_option maxHeartbeats 800000 in
theorem listsFit_ok (V : Int) (D : Nat) (Hd H : Int) (m : Nat) (ao : Option Addr) (ca n : Nat) (C : List (List (List Int))) (w : World) (hC : CubeAt w ao m C) (hf : ∀ R ∈ C, R.length = n ∧ ∀ t, t < n → (rowOf R t).length = D) (hn : n ≤ 4096) (hD : D ≤ 4096) :
   Calls Try.prog 48 #[.agg (cfgC V D Hd H m), .slice ao m ca, .int .i64 n] w fun e w' => e = .returned (.bool true) ∧ Below w.heap.size w w' := by
  have hm := hC.max
  have X0 := blk_new w 23 (cfgC V D Hd H m)
  have B0 : Below w.heap.size w (w.alloc (.cells (cfgC V D Hd H m) 23)) := (Below.refl _ _).alloc (Nat.le_refl _) _
  unfold cfgC at *
  generalize hw0 : w.alloc (.cells #[.int .i64 V, .int .i64 (D : Int), .int .i64 Hd, .int .i64 H, .int .i64 (m : Int)] 23) = w0 at *
  have a1 : w0.cell? ⟨w.heap.size, 1, none⟩ = some (.int .i64 (D : Int)) := X0.cell 1 rfl
  have a4 : w0.cell? ⟨w.heap.size, 4, none⟩ = some (.int .i64 (m : Int)) := X0.cell 4 rfl
  replace hC := hC.below B0
  go_enter Try.func48, Try.ntmps48
  go_wp2_with fail
  go_loopg [18] m (fun r i wr => ∃ k : Nat, k ≤ m ∧ r = m - k ∧ i = .int .i64 k ∧ wr = w0)
  case atStart => exact ⟨0, by omega, by omega, rfl, rfl⟩
  case round =>
    obtain ⟨k, hk, rfl, rfl, rfl⟩ := hrel
    by_cases hlt : k < m
    · obtain ⟨b, o, rfl, hc⟩ := hC.cells (by omega)
      have hR : C[k]? = some (C[k]'(by rw [hC.len]; exact hlt)) := List.getElem?_eq_getElem _
      have hmem : C[k]'(by rw [hC.len]; exact hlt) ∈ C := List.getElem_mem _
      generalize C[k]'(by rw [hC.len]; exact hlt) = R at hR hmem
      obtain ⟨ro, n', c, h1, h2, h3, h4, G1⟩ := hc k R hR
      obtain ⟨q1, q2⟩ := hf R hmem
      obtain rfl : n' = n := by rw [← q1, G1.len]
      clear hc h2 h3 h4 q1 hR
      go_wp2_with fail
      go_loopg [28] n' (fun r i wx => ∃ j : Nat, j ≤ n' ∧ r = n' - j ∧ i = .int .i64 j ∧ wx = wr)
      case atStart => exact ⟨0, by omega, by omega, rfl, rfl⟩
      case round =>
        obtain ⟨j, hj, rfl, rfl, rfl⟩ := hrel
        by_cases hjt : j < n'
        · obtain ⟨b2, o2, rfl, hc⟩ := G1.cells (by omega)
          obtain ⟨ro2, d, c2, e1, A1⟩ := hc j hjt
          obtain rfl : d = D := by rw [← q2 j hjt, A1.row.len]
          clear hc A1
          go_wp2
          go_roundg (n' - (j + 1))
          case measure => omega
          case rel => exact ⟨j + 1, by omega, rfl, by go_num, rfl⟩
        · obtain rfl : j = n' := by omega
          go_wp2
          go_roundg (m - (k + 1))
          case measure => omega
          case rel => exact ⟨k + 1, by omega, rfl, by go_num, rfl⟩
    · obtain rfl : k = m := by omega
      go_wp2
      go_ret
      exact ⟨rfl, B0⟩
/-- A view: its tokens, and the lists of its keys and values. -/
structure Vw where
  T : List Int
  K : List (List (List Int))
  V : List (List (List Int))
/-- A view's values. -/
structure VwV where
  t : Sl
  k : Sl
  v : Sl
def VwV.cells (v : VwV) : Array Value := #[v.t.v, v.k.v, v.v.v]
structure VwAt (w : World) (v : VwV) (X : Vw) : Prop where
  t : IArg w v.t.ao v.t.n v.t.c X.T
  k : CubeAt w v.k.ao v.k.n X.K
  v : CubeAt w v.v.ao v.v.n X.V
theorem VwAt.below {w w' : World} {v : VwV} {X : Vw} (h : VwAt w v X) (hb : Below w.heap.size w w') : VwAt w' v X := ⟨h.t.below hb, h.k.below hb, h.v.below hb⟩
/-- A view that fits: of nothing, or of tokens with as many rows in each list. -/
structure VwFit (V : Int) (D L : Nat) (X : Vw) : Prop where
  most : X.T.length ≤ 128
  toks : X.T.all (tokB V) = true
  k : X.K.length = if X.T.length = 0 then 0 else L
  v : X.V.length = if X.T.length = 0 then 0 else L
  ks : ∀ R ∈ X.K, R.length = X.T.length ∧ ∀ t, t < X.T.length → (rowOf R t).length = D
  vs : ∀ R ∈ X.V, R.length = X.T.length ∧ ∀ t, t < X.T.length → (rowOf R t).length = D
theorem Try.infoV : (Try.prog.info? 29).map (·.size) = some 3 := by kernel_rfl
theorem Try.infoC : (Try.prog.info? 23).map (·.size) = some 5 := by kernel_rfl
set_option maxRecDepth 100000 in
set_option maxHeartbeats 1600000 in
theorem sfits_ok (V : Int) (D : Nat) (Hd H : Int) (L : Nat) (v : VwV) (X : Vw) (w : World) (hv : VwAt w v X) (hf : VwFit V D L X) (hD : D ≤ 4096) :
   Calls Try.prog 27 #[.agg (cfgC V D Hd H L), .agg v.cells] w fun e w' => e = .returned (.bool true) ∧ Below w.heap.size w w' := by
  obtain ⟨⟨ta, tn, tz⟩, ⟨ka, kn, kz⟩, ⟨va, vn, vz⟩⟩ := v
  have hT := hv.t.row
  have hK := hv.k
  have hV := hv.v
  clear hv
  simp only at hT hK hV
  have hl := hT.len
  have most := hf.most
  have kl := hK.len
  have vl := hV.len
  have e1 := hf.k
  have e2 := hf.v
  rw [hl] at most e1 e2
  rw [kl] at e1
  rw [vl] at e2
  show Calls Try.prog 27 #[.agg #[.int .i64 V, .int .i64 (D : Int), .int .i64 Hd, .int .i64 H, .int .i64 (L : Int)], .agg #[.slice ta tn tz, .slice ka kn kz, .slice va vn vz]] w _
  have X0 := blk_new w 23 #[.int .i64 V, .int .i64 (D : Int), .int .i64 Hd, .int .i64 H, .int .i64 (L : Int)]
  have B0 : Below w.heap.size w (w.alloc (.cells #[.int .i64 V, .int .i64 (D : Int), .int .i64 Hd, .int .i64 H, .int .i64 (L : Int)] 23)) := (Below.refl _ _).alloc (Nat.le_refl _) _
  have s0 : (w.alloc (.cells #[.int .i64 V, .int .i64 (D : Int), .int .i64 Hd, .int .i64 H, .int .i64 (L : Int)] 23)).heap.size = w.heap.size + 1 := by simp
  generalize hw0 : w.alloc (.cells #[.int .i64 V, .int .i64 (D : Int), .int .i64 Hd, .int .i64 H, .int .i64 (L : Int)] 23) = w0 at *
  have X1 := blk_new w0 29 #[.slice ta tn tz, .slice ka kn kz, .slice va vn vz]
  have B1 : Below w0.heap.size w0 (w0.alloc (.cells #[.slice ta tn tz, .slice ka kn kz, .slice va vn vz] 29)) := (Below.refl _ _).alloc (Nat.le_refl _) _
  rw [s0] at X1
  generalize hw1 : w0.alloc (.cells #[.slice ta tn tz, .slice ka kn kz, .slice va vn vz] 29) = w1 at *
  replace X0 := X0.below B1
  replace B1 := below_then B0 B1
  have b0 : w1.cell? ⟨w.heap.size + 1, 0, none⟩ = some (.slice ta tn tz) := X1.cell 0 rfl
  have b1 : w1.cell? ⟨w.heap.size + 1, 1, none⟩ = some (.slice ka kn kz) := X1.cell 1 rfl
  have b2 : w1.cell? ⟨w.heap.size + 1, 2, none⟩ = some (.slice va vn vz) := X1.cell 2 rfl
  by_cases h0 : tn = 0
  · subst h0
    rw [if_pos rfl] at e1 e2
    subst e1 e2
    go_enter Try.func27, Try.ntmps27
    go_wp2
    go_ret
    exact ⟨rfl, B1⟩
  · rw [if_neg h0] at e1 e2
    subst e1
    obtain rfl : vn = kn := e2
    have HK := fun wv (h : CubeAt wv ka vn X.K) => listsFit_ok V D Hd H vn ka kz tn X.K wv h (by rw [← hl]; exact hf.ks) (by omega) hD
    have HV := fun wv (h : CubeAt wv va vn X.V) => listsFit_ok V D Hd H vn va vz tn X.V wv h (by rw [← hl]; exact hf.vs) (by omega) hD
    have HI := fun wv x => isToken_any V D Hd H vn x wv
    have tk := hf.toks
    clear hf
    unfold cfgC at HK HV HI
    replace hT := hT.below B1
    obtain ⟨b, o, rfl, hc⟩ := hT.cells (by omega)
    have hz0 : ((tn : Int) == 0) = false := by simpa using h0
    go_enter Try.func27, Try.ntmps27
    go_wp2_with fail
    go_loopg [30] tn (fun r i wr => ∃ k : Nat, k ≤ tn ∧ r = tn - k ∧ i = .int .i64 k ∧ Below w1.heap.size w1 wr)
    case atStart => exact ⟨0, by omega, by omega, rfl, Below.refl _ _⟩
    case round =>
      obtain ⟨k, hk, rfl, rfl, BR⟩ := hrel
      have Y0 := X0.below BR
      have Y1 := X1.below BR
      have a0 : wr.cell? ⟨w.heap.size, 0, none⟩ = some (.int .i64 V) := Y0.cell 0 rfl
      have a1 : wr.cell? ⟨w.heap.size, 1, none⟩ = some (.int .i64 (D : Int)) := Y0.cell 1 rfl
      have a2 : wr.cell? ⟨w.heap.size, 2, none⟩ = some (.int .i64 Hd) := Y0.cell 2 rfl
      have a3 : wr.cell? ⟨w.heap.size, 3, none⟩ = some (.int .i64 H) := Y0.cell 3 rfl
      have a4 : wr.cell? ⟨w.heap.size, 4, none⟩ = some (.int .i64 (vn : Int)) := Y0.cell 4 rfl
      clear b0 b1 b2
      by_cases hlt : k < tn
      · have ck : wr.cell? ⟨b, o + k, none⟩ = some (.int .i64 (el X.T k)) := by
          have h1 := hc k hlt
          have hb : b < w1.heap.size := by simpa using World.block_lt_of_cell? w1 _ h1
          rw [BR.cell (by exact hb)]
          exact h1
        have tx := all_el (k := k) (by rw [hl]; exact hlt) tk
        generalize el X.T k = x at *
        go_wp2_with fail
        refine (HI _ x).mono ?_
        rintro e w2 ⟨rfl, B2⟩
        rw [tx]
        have B3 := below_then BR B2
        go_wp2
        go_roundg (tn - (k + 1))
        case measure => omega
        case rel => exact ⟨k + 1, by omega, rfl, by go_num, B3⟩
      · obtain rfl : k = tn := by omega
        have b0 : wr.cell? ⟨w.heap.size + 1, 0, none⟩ = some (.slice (some ⟨b, o, none⟩) k tz) := Y1.cell 0 rfl
        have b1 : wr.cell? ⟨w.heap.size + 1, 1, none⟩ = some (.slice ka vn kz) := Y1.cell 1 rfl
        have b2 : wr.cell? ⟨w.heap.size + 1, 2, none⟩ = some (.slice va vn vz) := Y1.cell 2 rfl
        have BW := below_then B1 BR
        go_wp2_with fail
        refine (HK _ (hK.below BW)).mono ?_
        rintro e w2 ⟨rfl, B2⟩
        have BX := below_then BW B2
        replace Y0 := Y0.below B2
        replace Y1 := Y1.below B2
        clear a0 a1 a2 a3 a4 b0 b1 b2
        have a0 : w2.cell? ⟨w.heap.size, 0, none⟩ = some (.int .i64 V) := Y0.cell 0 rfl
        have a1 : w2.cell? ⟨w.heap.size, 1, none⟩ = some (.int .i64 (D : Int)) := Y0.cell 1 rfl
        have a2 : w2.cell? ⟨w.heap.size, 2, none⟩ = some (.int .i64 Hd) := Y0.cell 2 rfl
        have a3 : w2.cell? ⟨w.heap.size, 3, none⟩ = some (.int .i64 H) := Y0.cell 3 rfl
        have a4 : w2.cell? ⟨w.heap.size, 4, none⟩ = some (.int .i64 (vn : Int)) := Y0.cell 4 rfl
        have b0 : w2.cell? ⟨w.heap.size + 1, 0, none⟩ = some (.slice (some ⟨b, o, none⟩) k tz) := Y1.cell 0 rfl
        have b2 : w2.cell? ⟨w.heap.size + 1, 2, none⟩ = some (.slice va vn vz) := Y1.cell 2 rfl
        go_wp2_with fail
        refine (HV _ (hV.below BX)).mono ?_
        rintro e w3 ⟨rfl, B3⟩
        go_wp2
        go_ret
        exact ⟨rfl, below_then BX B3⟩
/-- A row of the call's own, told anew. -/
theorem owns_mono {w w' : World} {B B' n : Nat} {e : TypeId} {v : Value} {xs : List Value} (h : w.ownsRow B e 1 v n xs) (hB : B' ≤ B) (hb : ∀ b, v.ownBlock = some b → w'.heap[b]? = w.heap[b]?) : w'.ownsRow B' e 1 v n xs := by
  refine ⟨h.1, ?_⟩
  rcases h.2 with h3 | ⟨g, cap, cur, hv, hg, hh, h4⟩
  · exact .inl h3
  · subst hv
    exact .inr ⟨g, cap, cur, rfl, by omega, (hb g rfl).trans hh, h4⟩
/-- The block g of m lists: those ahead of place i read as A's, the others, which are full, as C's; they hang on the blocks that p tells. -/
structure KV (w : World) (g m i : Nat) (p : Nat → Prop) (A C : List (List (List Int))) : Prop where
  row : ∃ cs : Array Value, w.heap[g]? = some (.cells cs 73 (0, 0)) ∧ cs.size = m ∧
    (∀ t, t < i → ∃ ro n c vs, cs[t]? = some (.slice ro n c) ∧ (ro = none → c = 0) ∧ n ≤ c ∧ c ≤ 9223372036854775807 ∧ Hangs p w (fun w => GridV w ro n vs (A.getD t []))) ∧
    (∀ t, i ≤ t → t < m → ∃ ro n vs, cs[t]? = some (.slice ro n n) ∧ (ro = none → n = 0) ∧ Hangs p w (fun w => GridV w ro n vs (C.getD t [])))
theorem KV.lt {w : World} {g m i : Nat} {p : Nat → Prop} {A C : List (List (List Int))} (h : KV w g m i p A C) : g < w.heap.size := by
  obtain ⟨cs, h1, _⟩ := h.row
  exact (Array.getElem?_eq_some_iff.1 h1).1
theorem KV.below {w w' : World} {g m i : Nat} {p : Nat → Prop} {A C : List (List (List Int))} (h : KV w g m i p A C) (hb : Below w.heap.size w w') : KV w' g m i p A C := by
  have hl := h.lt
  obtain ⟨cs, h1, h2, h3, h4⟩ := h.row
  exact ⟨cs, (hb.block g hl).trans h1, h2, fun t ht => let ⟨ro, n, c, vs, e, q1, q2, q3, N⟩ := h3 t ht; ⟨ro, n, c, vs, e, q1, q2, q3, N.below hb⟩, fun t ht h5 => let ⟨ro, n, vs, e, q1, N⟩ := h4 t ht h5; ⟨ro, n, vs, e, q1, N.below hb⟩⟩
theorem KV.mono {w : World} {g m i : Nat} {p q : Nat → Prop} {A C : List (List (List Int))} (h : KV w g m i p A C) (hq : ∀ b, b < w.heap.size → p b → q b) : KV w g m i q A C := by
  obtain ⟨cs, h1, h2, h3, h4⟩ := h.row
  exact ⟨cs, h1, h2, fun t ht => let ⟨ro, n, c, vs, e, q1, q2, q3, N⟩ := h3 t ht; ⟨ro, n, c, vs, e, q1, q2, q3, N.mono hq⟩, fun t ht h5 => let ⟨ro, n, vs, e, q1, N⟩ := h4 t ht h5; ⟨ro, n, vs, e, q1, N.mono hq⟩⟩
theorem KV.other {w w' : World} {g m i : Nat} {p : Nat → Prop} {A C : List (List (List Int))} (h : KV w g m i p A C) (hs : w'.heap.size = w.heap.size) (hg : w'.heap[g]? = w.heap[g]?) (ho : ∀ b, p b → w'.heap[b]? = w.heap[b]?) : KV w' g m i p A C := by
  obtain ⟨cs, h1, h2, h3, h4⟩ := h.row
  exact ⟨cs, hg.trans h1, h2, fun t ht => let ⟨ro, n, c, vs, e, q1, q2, q3, N⟩ := h3 t ht; ⟨ro, n, c, vs, e, q1, q2, q3, N.other hs ho⟩, fun t ht h5 => let ⟨ro, n, vs, e, q1, N⟩ := h4 t ht h5; ⟨ro, n, vs, e, q1, N.other hs ho⟩⟩
theorem KV.put {w : World} {g m i : Nat} {p : Nat → Prop} {A C : List (List (List Int))} (h : KV w g m i p A C) {g2 : Nat} (hg : g2 ≠ g) (hp : ¬ p g2) (cs : Array Value) : KV (w.setRow g2 cs) g m i p A C :=
  h.other (by simp [World.setRow]) (setRow_other _ _ _ _ (Ne.symm hg)) fun b hb => setRow_other _ _ _ _ (fun e => hp (by rw [← e]; exact hb))
theorem KV.far {w : World} {g m i : Nat} {p : Nat → Prop} {A C : List (List (List Int))} (h : KV w g m i p A C) {a : Addr} (hg : a.block ≠ g) (hp : ¬ p a.block) (v : Value) : KV (w.setCell a v) g m i p A C :=
  h.other (by simp [World.setCell]) (Below.heap_setCell _ _ _ _ (Ne.symm hg)) fun b hb => Below.heap_setCell _ _ _ _ (fun e => hp (by rw [← e]; exact hb))
theorem KV.frozen {w : World} {g m i : Nat} {p : Nat → Prop} {A C : List (List (List Int))} (h : KV w g m i p A C) (t : Nat) : w.frozen? ⟨g, t, none⟩ = false := by
  obtain ⟨cs, h1, _⟩ := h.row
  unfold World.frozen?; simp only [h1]; rfl
/-- The list at place i. -/
theorem KV.at {w : World} {g m i : Nat} {p : Nat → Prop} {A C : List (List (List Int))} (h : KV w g m i p A C) (hi : i < m) : ∃ ro n vs, w.cell? ⟨g, i, none⟩ = some (.slice ro n n) ∧ (ro = none → n = 0) ∧ Hangs p w (fun w => GridV w ro n vs (C.getD i [])) := by
  obtain ⟨cs, h1, h2, h3, h4⟩ := h.row
  obtain ⟨ro, n, vs, e, q1, N⟩ := h4 i (Nat.le_refl _) hi
  refine ⟨ro, n, vs, ?_, q1, N⟩
  unfold World.cell?; simp only [h1]; exact e
/-- The list at place i is told anew. -/
theorem KV.step {w : World} {g m i : Nat} {p : Nat → Prop} {A C : List (List (List Int))} (h : KV w g m i p A C) (hi : i < m) (hp : ¬ p g) {ro : Option Addr} {n c : Nat} {vs : List Value} (q1 : ro = none → c = 0) (q2 : n ≤ c) (q3 : c ≤ 9223372036854775807) (N : Hangs p w fun w => GridV w ro n vs (A.getD i [])) : KV (w.setCell ⟨g, i, none⟩ (.slice ro n c)) g m (i + 1) p A C := by
  obtain ⟨cs, h1, h2, h3, h4⟩ := h.row
  refine ⟨cs.setIfInBounds i (.slice ro n c), by simp [World.setCell, Array.getElem?_modify, h1], by simpa using h2, fun t ht => ?_, fun t ht h5 => ?_⟩
  · rw [Array.getElem?_setIfInBounds]
    by_cases e : i = t
    · subst e
      rw [if_pos rfl, if_pos (by omega)]
      exact ⟨ro, n, c, vs, rfl, q1, q2, q3, N.set hp _⟩
    · rw [if_neg e]
      obtain ⟨ro', n', c', vs', e2, x1, x2, x3, N'⟩ := h3 t (by omega)
      exact ⟨ro', n', c', vs', e2, x1, x2, x3, N'.set hp _⟩
  · rw [Array.getElem?_setIfInBounds, if_neg (by omega)]
    obtain ⟨ro', n', vs', e2, x1, N'⟩ := h4 t (by omega) h5
    exact ⟨ro', n', vs', e2, x1, N'.set hp _⟩
theorem Lists.kv {w : World} {g m : Nat} {C : List (List (List Int))} (h : Lists w g m m C) (hl : C.length = m) (A : List (List (List Int))) : KV w g m 0 (fun b => g < b ∧ b < w.heap.size) A C := by
  obtain ⟨cs, h1, h2, h3⟩ := h.row
  refine ⟨cs, h1, h2, fun t ht => by omega, fun t _ ht => ?_⟩
  have e : C[t]? = some (C.getD t []) := by rw [List.getD_eq_getElem?_getD, List.getElem?_eq_getElem (by omega)]; rfl
  obtain ⟨ro, n, vs, e2, q1, N⟩ := h3 t _ ht e
  exact ⟨ro, n, vs, e2, q1, Hangs.mono N fun b hb h => ⟨h, hb⟩⟩
end Go.Proofs.Ytpplnjmjldhlbaa

/- A region that draws its order: what a store waits for may be taken first, though the store turns what was read. -/
namespace Go.Proofs.Ytpplnjmjldhlbaa
section
variable {P : Program} {ops : Array Oper} {Q : Exit → Act → World → Prop} {S : World → Prop} {z : Nat}
/-- Whatever comes up next; S holds as long as operation z hasn't come up. -/
def wpLate (P : Program) (ops : Array Oper) (Q : Exit → Act → World → Prop) (S : World → Prop) (z : Nat) : Nat → Array Bool → Act → World → Prop
  | 0, listed, a, w => Region.ready .any ops listed = [] ∧ Q .normal a w
  | fuel + 1, listed, a, w =>
    (Region.ready .any ops listed = [] → Q .normal a w) ∧
    ∀ i ∈ Region.ready .any ops listed, wpOp P ops Q i (fun a' w' => (i ≠ z → listed.getD z true = false → S w') ∧ wpLate P ops Q S z fuel (listed.setIfInBounds i true) a' w') a w
theorem wpAny_of_late : ∀ (fuel : Nat) (listed : Array Bool) (a : Act) (w : World), wpLate P ops Q S z fuel listed a w → wpAny P .any ops Q fuel listed a w
  | 0, _, _, _, h => h
  | fuel + 1, _, _, _, h => ⟨h.1, fun i hi => wpOp_mono (fun a' w' h' => wpAny_of_late fuel _ a' w' h'.2) (h.2 i hi)⟩
theorem wpLate_first {i : Nat} {oi oz : Oper} {v : Value} (hi : ops[i]? = some oi) (hz : ops[z]? = some oz) (hzi : ∃ e ∈ oz.after, Region.binds .any e = true ∧ e.on = i)
    (hsel : ∀ (j : Nat) (o : Oper) cs b, ops[j]? = some o → o.op ≠ .select cs b) (hQ : ∀ c a w, Q (.panic c) (a.put oi.dst v) w → Q (.panic c) a w) :
    ∀ (fuel : Nat) (listed : Array Bool) (a : Act) (w : World),
      (∀ j oj, ops[j]? = some oj → j ≠ i → listed.getD j true = false → (∀ e ∈ oj.after, Region.binds .any e = true → e.on ≠ i) → oi.apart ops oj = true) →
      i ∈ Region.ready .any ops listed → listed.getD z true = false → YieldsIf P ops S oi v a → S w →
      wpLate P ops Q S z fuel (listed.setIfInBounds i true) (a.put oi.dst v) w → wpLate P ops Q S z (fuel + 1) listed a w := by
  intro fuel
  induction fuel with
  | zero =>
    intro listed a w _ hr _ hy hS H
    refine ⟨fun h => (by rw [h] at hr; cases hr), fun j hj => ?_⟩
    by_cases hji : j = i
    · subst hji
      exact hy.wpOp hi hS ⟨fun _ _ => hS, H⟩
    · have hc := ready_mono hj hji
      rw [H.1] at hc
      cases hc
  | succ fuel ih =>
    intro listed a w hfree hr hu hy hS H
    refine ⟨fun h => (by rw [h] at hr; cases hr), fun j hj => ?_⟩
    by_cases hji : j = i
    · subst hji
      exact hy.wpOp hi hS ⟨fun _ _ => hS, H⟩
    · obtain ⟨hjun, oj, hoj, hall⟩ := mem_ready.1 hj
      have hnot : ∀ e ∈ oj.after, Region.binds .any e = true → e.on ≠ i := fun e he hb heq => by
        have h1 := hall e he hb
        have h0 := (mem_ready.1 hr).1
        rw [heq] at h1
        rcases Nat.lt_or_ge i listed.size with h' | h'
        · simp [h'] at h0 h1; rw [h0] at h1; cases h1
        · simp [Array.getElem?_eq_none h'] at h1
      have hjz : j ≠ z := by
        rintro rfl
        rw [hz] at hoj
        simp only [Option.some.injEq] at hoj
        subst hoj
        obtain ⟨e, h1, h2, h3⟩ := hzi
        exact hnot e h1 h2 h3
      have hiz : i ≠ z := by
        rintro rfl
        rw [hi] at hz
        simp only [Option.some.injEq] at hz
        subst hz
        obtain ⟨e, h1, h2, h3⟩ := hzi
        obtain ⟨hun, o', ho', hall'⟩ := mem_ready.1 hr
        rw [hi] at ho'
        simp only [Option.some.injEq] at ho'
        subst ho'
        have h4 := hall' e h1 h2
        rw [h3] at h4
        rcases Nat.lt_or_ge i listed.size with h' | h'
        · simp [h'] at hun h4; rw [hun] at h4; cases h4
        · simp [Array.getElem?_eq_none h'] at h4
      have h2 := wpOp_putIf hoj (hfree j oj hoj hji hjun hnot) (fun cs b => hsel i oi cs b hi) (fun cs b => hsel j oj cs b hoj) hQ hy (H.2 j (ready_mono hj hji))
      have hfree' : ∀ k ok, ops[k]? = some ok → k ≠ i → (listed.setIfInBounds j true).getD k true = false →
          (∀ e ∈ ok.after, Region.binds .any e = true → e.on ≠ i) → oi.apart ops ok = true := fun k ok hk hki hun hno => by
        refine hfree k ok hk hki ?_ hno
        by_cases hjk : j = k
        · subst hjk; exact hjun
        · rw [getD_set_ne true hjk] at hun; exact hun
      refine wpOp_mono (fun a' w' h3 => ?_) h2
      have hS' : S w' := h3.2.1 hjz (by rw [getD_set_ne true hiz]; exact hu)
      refine ⟨fun _ _ => hS', ih (listed.setIfInBounds j true) a' w' hfree' (ready_mono hr (Ne.symm hji)) (by rw [getD_set_ne true hjz]; exact hu) h3.1 hS' ?_⟩
      rw [Array.setIfInBounds_comm _ _ hji]
      exact h3.2.2
/-- The same of an operation that yields its value in whatever world: z needn't wait for it. -/
theorem wpLate_plain {i : Nat} {oi : Oper} {v : Value} (hi : ops[i]? = some oi) (hiz : i ≠ z)
    (hsel : ∀ (j : Nat) (o : Oper) cs b, ops[j]? = some o → o.op ≠ .select cs b) (hQ : ∀ c a w, Q (.panic c) (a.put oi.dst v) w → Q (.panic c) a w) :
    ∀ (fuel : Nat) (listed : Array Bool) (a : Act) (w : World),
      (∀ j oj, ops[j]? = some oj → j ≠ i → listed.getD j true = false → (∀ e ∈ oj.after, Region.binds .any e = true → e.on ≠ i) → oi.apart ops oj = true) →
      i ∈ Region.ready .any ops listed → (listed.getD z true = false → S w) → YieldsIf P ops (fun _ => True) oi v a →
      wpLate P ops Q S z fuel (listed.setIfInBounds i true) (a.put oi.dst v) w → wpLate P ops Q S z (fuel + 1) listed a w := by
  intro fuel
  induction fuel with
  | zero =>
    intro listed a w _ hr hS hy H
    refine ⟨fun h => (by rw [h] at hr; cases hr), fun j hj => ?_⟩
    by_cases hji : j = i
    · subst hji
      exact hy.wpOp hi trivial ⟨fun _ => hS, H⟩
    · have hc := ready_mono hj hji
      rw [H.1] at hc
      cases hc
  | succ fuel ih =>
    intro listed a w hfree hr hS hy H
    refine ⟨fun h => (by rw [h] at hr; cases hr), fun j hj => ?_⟩
    by_cases hji : j = i
    · subst hji
      exact hy.wpOp hi trivial ⟨fun _ => hS, H⟩
    · obtain ⟨hjun, oj, hoj, hall⟩ := mem_ready.1 hj
      have hnot : ∀ e ∈ oj.after, Region.binds .any e = true → e.on ≠ i := fun e he hb heq => by
        have h1 := hall e he hb
        have h0 := (mem_ready.1 hr).1
        rw [heq] at h1
        rcases Nat.lt_or_ge i listed.size with h' | h'
        · simp [h'] at h0 h1; rw [h0] at h1; cases h1
        · simp [Array.getElem?_eq_none h'] at h1
      have h2 := wpOp_putIf hoj (hfree j oj hoj hji hjun hnot) (fun cs b => hsel i oi cs b hi) (fun cs b => hsel j oj cs b hoj) hQ hy (H.2 j (ready_mono hj hji))
      have hfree' : ∀ k ok, ops[k]? = some ok → k ≠ i → (listed.setIfInBounds j true).getD k true = false →
          (∀ e ∈ ok.after, Region.binds .any e = true → e.on ≠ i) → oi.apart ops ok = true := fun k ok hk hki hun hno => by
        refine hfree k ok hk hki ?_ hno
        by_cases hjk : j = k
        · subst hjk; exact hjun
        · rw [getD_set_ne true hjk] at hun; exact hun
      refine wpOp_mono (fun a' w' h3 => ?_) h2
      have hS' : j ≠ z → listed.getD z true = false → S w' := fun hjz hu => h3.2.1 hjz (by rw [getD_set_ne true hiz]; exact hu)
      refine ⟨hS', ih (listed.setIfInBounds j true) a' w' hfree' (ready_mono hr (Ne.symm hji)) (fun hu => ?_) h3.1 ?_⟩
      · by_cases hjz : j = z
        · subst hjz
          have hlt : j < listed.size := by
            rcases Nat.lt_or_ge j listed.size with h' | h'
            · exact h'
            · simp [h'] at hjun
          simp [hlt] at hu
        · exact hS' hjz (by rw [getD_set_ne true hjz] at hu; exact hu)
      · rw [Array.setIfInBounds_comm _ _ hji]
        exact h3.2.2
/-- Does operation z wait for i? -/
def waitsOn (ops : Array Oper) (z i : Nat) : Bool := ((ops[z]?).map fun o => o.after.any fun e => Region.binds .any e && (e.on == i)).getD false
theorem waitsOn_spec {i : Nat} (h : waitsOn ops z i = true) : ∃ oz, ops[z]? = some oz ∧ ∃ e ∈ oz.after, Region.binds .any e = true ∧ e.on = i := by
  unfold waitsOn at h
  cases e : ops[z]? with
  | none => rw [e] at h; simp at h
  | some oz =>
    rw [e] at h
    simp only [Option.map_some, Option.getD_some, Array.any_eq_true, Bool.and_eq_true, beq_iff_eq] at h
    obtain ⟨k, hk, h1, h2⟩ := h
    exact ⟨oz, rfl, _, Array.getElem_mem hk, h1, h2⟩
/-- Take number i first. -/
theorem wpLate_take {i : Nat} {oi : Oper} {v : Value} {fuel : Nat} {listed : Array Bool} {a : Act} {w : World} (hi : ops[i]? = some oi) (hz : waitsOn ops z i = true) (hu : listed.getD z true = false)
    (hs : Region.noSelect ops = true) (hf : Region.free .any ops listed i = true) (hr : (Region.ready .any ops listed).contains i = true)
    (hQ : ∀ c a w, Q (.panic c) (a.put oi.dst v) w → Q (.panic c) a w) (hy : YieldsIf P ops S oi v a) (hS : S w)
    (h : wpLate P ops Q S z fuel (listed.setIfInBounds i true) (a.put oi.dst v) w) : wpLate P ops Q S z (fuel + 1) listed a w := by
  obtain ⟨oz, h1, h2⟩ := waitsOn_spec hz
  exact wpLate_first hi h1 h2 (Region.noSelect_spec hs) hQ fuel listed a w (Region.free_spec hi hf) (by simpa using hr) hu hy hS h
/-- Take number i first: it yields its value in whatever world. -/
theorem wpLate_pure {i : Nat} {oi : Oper} {v : Value} {fuel : Nat} {listed : Array Bool} {a : Act} {w : World} (hi : ops[i]? = some oi) (hiz : i ≠ z)
    (hs : Region.noSelect ops = true) (hf : Region.free .any ops listed i = true) (hr : (Region.ready .any ops listed).contains i = true)
    (hQ : ∀ c a w, Q (.panic c) (a.put oi.dst v) w → Q (.panic c) a w) (hy : YieldsIf P ops (fun _ => True) oi v a) (hS : listed.getD z true = false → S w)
    (h : wpLate P ops Q S z fuel (listed.setIfInBounds i true) (a.put oi.dst v) w) : wpLate P ops Q S z (fuel + 1) listed a w :=
  wpLate_plain hi hiz (Region.noSelect_spec hs) hQ fuel listed a w (Region.free_spec hi hf) (by simpa using hr) hS hy h
/-- One of those that may come up. -/
theorem wpLate_nil {fuel : Nat} {listed : Array Bool} {a : Act} {w : World} : ∀ i ∈ ([] : List Nat), wpOp P ops Q i (fun a' w' => (i ≠ z → listed.getD z true = false → S w') ∧ wpLate P ops Q S z fuel (listed.setIfInBounds i true) a' w') a w := fun _ h => by cases h
theorem wpLate_cons {fuel : Nat} {listed : Array Bool} {a : Act} {w : World} {i : Nat} {o : Oper} {rs : List Nat} (ho : ops[i]? = some o)
    (h : ∀ K' : Act → World → Prop, Shut (∀ a w, (i ≠ z → listed.getD z true = false → S w) → wpLate P ops Q S z fuel (listed.setIfInBounds i true) a w → K' a w) → if Region.wanted o (yielded ops a.tmps) = true then Oper.wp P o a w K' Q else K' (a.put o.dst undef) w)
    (hs : ∀ j ∈ rs, wpOp P ops Q j (fun a' w' => (j ≠ z → listed.getD z true = false → S w') ∧ wpLate P ops Q S z fuel (listed.setIfInBounds j true) a' w') a w) :
    ∀ j ∈ i :: rs, wpOp P ops Q j (fun a' w' => (j ≠ z → listed.getD z true = false → S w') ∧ wpLate P ops Q S z fuel (listed.setIfInBounds j true) a' w') a w := fun j hj => by
  rcases List.mem_cons.1 hj with rfl | hj
  · exact wpOp_step ho (fun K' hK => h K' (fun a w hS hW => hK a w ⟨hS, hW⟩))
  · exact hs j hj
theorem wpLate_ready {rs : List Nat} {fuel : Nat} {listed : Array Bool} {a : Act} {w : World} (hr : Region.ready .any ops listed = rs) (hne : rs ≠ [])
    (h : ∀ i ∈ rs, wpOp P ops Q i (fun a' w' => (i ≠ z → listed.getD z true = false → S w') ∧ wpLate P ops Q S z fuel (listed.setIfInBounds i true) a' w') a w) : wpLate P ops Q S z (fuel + 1) listed a w :=
  ⟨fun h0 => absurd (hr ▸ h0) hne, hr ▸ h⟩
theorem wpLate_done {listed : Array Bool} {a : Act} {w : World} (hr : Region.ready .any ops listed = []) (h : Q .normal a w) : ∀ fuel, wpLate P ops Q S z fuel listed a w
  | 0 => ⟨hr, h⟩
  | _ + 1 => ⟨fun _ => h, by rw [hr]; simp⟩
theorem wp_region_late {id : Nat} {a : Act} {w : World} (z : Nat) (hm : P.follows .mixedOrders = true) (hS : S w.drew)
    (h : S w.drew → wpLate P ops Q S z ops.size (Array.replicate ops.size false) a w.drew) : (Code.region id ops true).wp P Q a w :=
  wp_region_any hm (wpAny_of_late _ _ _ _ (h hS))
end
end Go.Proofs.Ytpplnjmjldhlbaa

/- Package step: append of a row to a full list of rows; what a token more makes of a view. -/
namespace Go.Proofs.Ytpplnjmjldhlbaa
open Go.ChangeShapes Go.WideShapes Go.ChangeAt Go.RowKit
theorem front_get (l : List Value) (z : Array Value) {j : Nat} {u : Value} (h : l[j]? = some u) : (l.toArray ++ z)[j]? = some u := by
  have hj := (List.getElem?_eq_some_iff.1 h).1
  rw [Array.getElem?_append_left (by simpa using hj)]
  simpa using h
/-- append(rows, row), rows a full list. -/
theorem wp_append_full {o : Oper} {a : Act} {w : World} {K : Act → World → Prop} {Q : Exit → Act → World → Prop} (s x : Operand) (hop : o.op = .call { callee := .builtin .append, args := #[s, x], argTypes := #[73, 73] })
    (p : Nat → Prop) (ro : Option Addr) (n : Nat) (vs : List Value) (R : List (List Int)) (hs : a.eval s = .slice ro n n) (hnil : ro = none → n = 0) (hG : Hangs p w (fun w => GridV w ro n vs R))
    (bo g1 m1 c1 : Nat) (Y : List Int) (hx : a.eval x = .slice (some ⟨bo, 0, none⟩) 1 1) (hX : w.cell? ⟨bo, 0, none⟩ = some (.slice (some ⟨g1, 0, none⟩) m1 c1)) (hY : Hangs p w (fun w => Arg w (some ⟨g1, 0, none⟩) m1 c1 Y)) (hn : n ≤ 4096) (hp : p w.heap.size)
    (h : ∀ cap w', n + 1 ≤ cap → cap ≤ 9223372036854775807 → Hangs p w' (fun wv => GridV wv (some ⟨w.heap.size, 0, none⟩) (n + 1) (vs ++ [.slice (some ⟨g1, 0, none⟩) m1 c1]) (R ++ [Y])) → Below w.heap.size w w' → K (a.put o.dst (.slice (some ⟨w.heap.size, 0, none⟩) (n + 1) cap)) w') : Oper.wp Try.prog o a w K Q := by
  obtain ⟨i0, hi, hz0, hz1, hz2⟩ := info_parts Try.infoRow
  have hnews : ∀ j u, [Value.slice (some ⟨g1, 0, none⟩) m1 c1][j]? = some u → w.cell? ((Addr.mk bo 0 none).add j) = some u := by
    intro j u hj
    match j, hj with
    | 0, hj =>
      simp at hj
      subst hj
      have e2 : (Addr.mk bo 0 none).add 0 = ⟨bo, 0, none⟩ := by simp [Addr.add]
      rw [e2, hX]
  have hgo : ∀ (cs : Array Value) (cap : Nat), (∀ (j : Nat) (u : Value), (vs ++ [.slice (some ⟨g1, 0, none⟩) m1 c1])[j]? = some u → cs[j]? = some u) → n + 1 ≤ cap → cap ≤ 9223372036854775807 → K (a.put o.dst (.slice (some ⟨w.heap.size, 0, none⟩) (n + 1) cap)) (w.drew.alloc (.cells cs 72)) := by
    intro cs cap hcs h1 h2
    have hb : Below w.heap.size w (w.drew.alloc (.cells cs 72)) := ((Below.refl _ _).drew).alloc (Nat.le_refl _) _
    refine h cap _ h1 h2 (fun w2 h3 => ?_) hb
    have hnew := heap_alloc_new w.drew (.cells cs 72)
    have hg : w2.heap[w.heap.size]? = some (.cells cs 72 (0, 0)) := (h3 w.heap.size hp (by simp)).trans hnew
    have ho : ∀ b, p b → b < w.heap.size → w2.heap[b]? = w.heap[b]? := fun b hb1 hb2 => (h3 b hb1 (Nat.lt_of_lt_of_le hb2 hb.size)).trans (hb.block b hb2)
    have V := hG w2 ho
    have A := hY w2 ho
    refine ⟨V.rows.snoc A, by simp [V.len], by omega, fun _ => ⟨w.heap.size, 0, rfl, fun j u hj => ?_⟩⟩
    rw [Nat.zero_add]
    unfold World.cell?
    simp only [hg]
    exact hcs j u hj
  have V0 := hG.now
  have hmx := fun (nd od : Nat) (hh : nd ≤ maxLen) => grownCap_le_maxLen w nd od 72 hh
  have hge := fun (nd od : Nat) => grownCap_ge w nd od 72
  cases ro with
  | none =>
    obtain rfl : n = 0 := hnil rfl
    obtain rfl : vs = [] := List.length_eq_zero_iff.1 V0.len
    have hrun := run_append_nil (P := Try.prog) w 73 o.type 72 i0 (.slice none 0 0) Try.underlying73 hi hz0 ⟨bo, 0, none⟩ 1 1 [.slice (some ⟨g1, 0, none⟩) m1 c1] (by simp [hz1]) hnews (by omega) (by omega) (by rw [hz2]; omega)
    unfold Oper.wp
    simp [execOp, hop, resolve, invoke, builtin, hs, hx, hrun, Result.andThen]
    refine hgo _ _ (fun j u hj => ?_) (hge 1 0) (by have := hmx 1 0 (by decide); unfold maxLen at this; omega)
    exact front_get [.slice (some ⟨g1, 0, none⟩) m1 c1] _ hj
  | some ad =>
    have holds : ∀ j v, vs[j]? = some v → w.cell? (ad.add j) = some v := fun j v hj => by
      have hjn : j < n := by rw [← V0.len]; exact (List.getElem?_eq_some_iff.1 hj).1
      obtain ⟨b, o', e, hc⟩ := V0.cells (by omega)
      simp only [Option.some.injEq] at e
      subst e
      have e2 : (Addr.mk b o' none).add j = ⟨b, o' + j, none⟩ := by simp [Addr.add]
      rw [e2]
      exact hc j v hj
    have hrun := run_append_grow (P := Try.prog) w 73 o.type 72 i0 (.slice none 0 0) Try.underlying73 hi hz0 ad n n vs (by rw [hz1, V0.len]; omega) holds ⟨bo, 0, none⟩ 1 1 [.slice (some ⟨g1, 0, none⟩) m1 c1] (by simp [hz1]) hnews (by omega) (by omega) (growslice_fits (by omega) (by rw [hz2]; omega))
    unfold Oper.wp
    simp [execOp, hop, resolve, invoke, builtin, hs, hx, hrun, Result.andThen]
    refine hgo _ _ (fun j u hj => ?_) (hge (n + 1) n) (by have := hmx (n + 1) n (by unfold maxLen; omega); unfold maxLen at this; omega)
    exact front_get (vs ++ [.slice (some ⟨g1, 0, none⟩) m1 c1]) _ hj
end Go.Proofs.Ytpplnjmjldhlbaa

/- Package step: goOn: the view behind one token more. -/
namespace Go.Proofs.Ytpplnjmjldhlbaa
open Go.ChangeShapes Go.WideShapes Go.ChangeAt Go.RowKit
def layD : Lay := ⟨[], [], [], [], [], [], [], []⟩
def layAt (M : Mdl) (l : Nat) : Lay := M.Ls.getD l layD
/-- The row that l layers make of a first one, behind the lists K and V of n rows each. -/
def xRow (M : Mdl) (D H Hd n : Nat) (K V : List (List (List Int))) (x : List Int) : Nat → List Int
  | 0 => x
  | l + 1 => oneR (layAt M l) D H Hd (xRow M D H Hd n K V x l) (K.getD l []) (V.getD l []) n
def newK (M : Mdl) (D H Hd n L : Nat) (K V : List (List (List Int))) (x : List Int) : List (List (List Int)) := (List.range L).map fun l => K.getD l [] ++ [keyR (layAt M l) D (xRow M D H Hd n K V x l)]
def newV (M : Mdl) (D H Hd n L : Nat) (K V : List (List (List Int))) (x : List Int) : List (List (List Int)) := (List.range L).map fun l => V.getD l [] ++ [valR (layAt M l) D (xRow M D H Hd n K V x l)]
theorem newK_at (M : Mdl) (D H Hd n L : Nat) (K V : List (List (List Int))) (x : List Int) {l : Nat} (h : l < L) : (newK M D H Hd n L K V x).getD l [] = K.getD l [] ++ [keyR (layAt M l) D (xRow M D H Hd n K V x l)] := by
  unfold newK
  rw [List.getD_eq_getElem?_getD, List.getElem?_map, List.getElem?_range h]
  rfl
theorem newV_at (M : Mdl) (D H Hd n L : Nat) (K V : List (List (List Int))) (x : List Int) {l : Nat} (h : l < L) : (newV M D H Hd n L K V x).getD l [] = V.getD l [] ++ [valR (layAt M l) D (xRow M D H Hd n K V x l)] := by
  unfold newV
  rw [List.getD_eq_getElem?_getD, List.getElem?_map, List.getElem?_range h]
  rfl
/-- The view behind one token more, and the row that the last layer makes of it. -/
def feedV (M : Mdl) (D H Hd L : Nat) (X : Vw) (tok : Nat) : Vw := ⟨X.T ++ [(tok : Int)], newK M D H Hd X.T.length L X.K X.V (begR M.E D tok X.T.length), newV M D H Hd X.T.length L X.K X.V (begR M.E D tok X.T.length)⟩
def feedX (M : Mdl) (D H Hd L : Nat) (X : Vw) (tok : Nat) : List Int := xRow M D H Hd X.T.length X.K X.V (begR M.E D tok X.T.length) L
/-- The blocks that a new view's lists may hang on. -/
def offB (w : World) (gk gv gN : Nat) (tv : Value) (b : Nat) : Prop := w.heap.size + 3 < b ∧ b ≠ gk ∧ b ≠ gv ∧ b ≠ gN ∧ tv.ownBlock ≠ some b
theorem yield_row {w : World} {a : Act} {o : Oper} (ty : TypeId) (x : Operand) (ho : o.op = .load ty x) (g : Nat) (hx : a.eval x = .pointer (some ⟨g, 0, none⟩)) (cs : Array Value) (hl : (loadVar ty ⟨g, 0, none⟩).run Try.prog w = .ok (.agg cs) w) : (execOp a.eval o).run Try.prog w = .ok (.value (.agg cs)) w := by
  unfold execOp
  simp only [ho, hx, Instr.loadAt, Instr.sureAddr, Sem.run_bind, Sem.run_pure, Result.andThen_ok, hl]
theorem Fresh.arg_off {wr w : World} {B g n c : Nat} {A : List Int} {gk gv gN : Nat} {tv : Value} (h : Fresh wr B g n c A) (hB : w.heap.size + 3 < B) (h1 : g ≠ gk) (h2 : g ≠ gv) (h3 : g ≠ gN) (h4 : tv.ownBlock ≠ some g) : Hangs (offB w gk gv gN tv) wr fun w => Arg w (some ⟨g, 0, none⟩) n c A :=
  (h.hangs.mono fun b _ e => by subst e; have := h.base; exact ⟨by omega, h1, h2, h3, h4⟩).imp fun _ h => h.arg
theorem kv_made (w : World) (L : Nat) (p : Nat → Prop) (A C : List (List (List Int))) (hC : C = []) : KV (w.alloc (.cells (madeCells #[.slice none 0 0] L) 73)) w.heap.size L 0 p A C := by
  subst hC
  refine ⟨_, heap_alloc_new _ _, by simp [madeCells], fun t ht => by omega, fun t _ ht => ⟨none, 0, [], ?_, fun _ => rfl, fun _ _ => gridV_nil _ _⟩⟩
  simp [madeCells, ht, Nat.mod_one]
theorem getD_set_true (l : Array Bool) (z : Nat) : (l.setIfInBounds z true).getD z true = true := by
  rcases Nat.lt_or_ge z l.size with h | h
  · simp [h]
  · simp [h]
theorem cell_keep {w w' : World} {a : Addr} {v : Value} (h : w.cell? a = some v) (hb : Below w.heap.size w w') : w'.cell? a = some v := by
  rw [World.cell?_of_block (hb.block _ (World.block_lt_of_cell? w _ h))]
  exact h
theorem Hangs.grown {p : Nat → Prop} {w w' : World} {Φ : World → Prop} (h : Hangs p w Φ) {r : Option Nat} (hg : w.grownBy w' r) (hr : ∀ b, p b → some b ≠ r) : Hangs p w' Φ := fun w2 h2 =>
  h w2 fun b h3 h4 => (h2 b h3 (Nat.lt_of_lt_of_le h4 hg.size)).trans (hg.block b h4 (hr b h3))
theorem KV.grown {w w' : World} {g m i : Nat} {p : Nat → Prop} {A C : List (List (List Int))} (h : KV w g m i p A C) {r : Option Nat} (hg : w.grownBy w' r) (hr : ∀ b, p b → some b ≠ r) (hgr : some g ≠ r) : KV w' g m i p A C := by
  have hl := h.lt
  obtain ⟨cs, h1, h2, h3, h4⟩ := h.row
  exact ⟨cs, (hg.block g hl hgr).trans h1, h2, fun t ht => let ⟨ro, n, c, vs, e, q1, q2, q3, N⟩ := h3 t ht; ⟨ro, n, c, vs, e, q1, q2, q3, N.grown hg hr⟩, fun t ht h5 => let ⟨ro, n, vs, e, q1, N⟩ := h4 t ht h5; ⟨ro, n, vs, e, q1, N.grown hg hr⟩⟩
/-- Lists that were all told anew, as they read. -/
theorem KV.cube {w : World} {g m : Nat} {p : Nat → Prop} {A C : List (List (List Int))} (h : KV w g m m p A C) (hl : A.length = m) (hm : m ≤ 9223372036854775807) {B : Nat} (hp : ∀ b, p b → B ≤ b) (hB : B ≤ g) : New B w fun w => CubeAt w (some ⟨g, 0, none⟩) m A := by
  intro w2 h2
  have hlt := h.lt
  obtain ⟨cs, h1, hs, h3, _⟩ := h.row
  have hg := (h2 g hB hlt).trans h1
  refine ⟨hl, hm, fun _ => ⟨g, 0, rfl, fun t R hR => ?_⟩⟩
  have ht : t < m := by rw [← hl]; exact (List.getElem?_eq_some_iff.1 hR).1
  obtain ⟨ro, n, c, vs, e, q1, q2, q3, N⟩ := h3 t ht
  have eR : A.getD t [] = R := by rw [List.getD_eq_getElem?_getD, hR]; rfl
  rw [eR] at N
  refine ⟨ro, n, c, ?_, q1, q2, q3, (N w2 fun b hb hb2 => h2 b (hp b hb) hb2).grid⟩
  rw [Nat.zero_add]
  unfold World.cell?
  simp only [hg]
  exact e
theorem owns_slice {w : World} {B n : Nat} {e : TypeId} {v : Value} {xs : List Value} (h : w.ownsRow B e 1 v n xs) : ∃ a c, v = .slice a n c := by
  rcases h.2 with ⟨h3, h4⟩ | ⟨g, cap, cur, hv, _⟩
  · exact ⟨none, 0, by rw [h3, h4]⟩
  · exact ⟨_, _, hv⟩
/-- What lists of a view that fits are like. -/
theorem fit_list {D L n : Nat} {K : List (List (List Int))} (hk : K.length = if n = 0 then 0 else L) (ks : ∀ R ∈ K, R.length = n ∧ ∀ t, t < n → (rowOf R t).length = D) {l : Nat} (hl : l < L) : (K.getD l []).length = n ∧ ∀ t, t < n → (rowOf (K.getD l []) t).length = D := by
  by_cases h0 : n = 0
  · rw [if_pos h0] at hk
    obtain rfl : K = [] := List.length_eq_zero_iff.1 hk
    subst h0
    exact ⟨rfl, fun t ht => by omega⟩
  · rw [if_neg h0] at hk
    have e : K.getD l [] = K[l]'(by omega) := by rw [List.getD_eq_getElem?_getD, List.getElem?_eq_getElem (by omega)]; rfl
    rw [e]
    exact ks _ (List.getElem_mem _)
end Go.Proofs.Ytpplnjmjldhlbaa
