/- A row of messages that were sent, beside a net; the frames on their way. -/
import Derived.Test.YtmoohnpffohgeaaDoorNTurn2
import Derived.Test.YtmoohnpffohgeaaDoorNText
import Derived.Test.YtmoohnpffohgeaaDoorWrCong
import Derived.Test.YtmoohnpffohgeaaDoorWrBur
namespace Go.Proofs.YtmoohnpffohgeaaDoor
open Go.ChangeShapes Go.WideShapes Go.ChangeAt Go.RowKit
def g6 : Nat → Int := fun i => if i = 0 then 6 else 0
theorem vB_small (n : Nat) (h : n < 128) : vB n = [UInt8.ofNat n] := by
  unfold vB
  rw [show n / 128 = 0 by omega, grpH_zero, show n % 128 = n by omega]
  rfl
theorem mL_six : mL g6 [] ⟨#[]⟩ = [6, 0, 0, 0, 0, 0, 0, 0, 0, 0, 0, 0] := by
  rw [mL_eq]
  have e : nsB g6 10 = [6, 0, 0, 0, 0, 0, 0, 0, 0, 0] := by
    unfold nsB
    have : ∀ i, vB (g6 i).toNat = [UInt8.ofNat (g6 i).toNat] := fun i => vB_small _ (by unfold g6; split <;> decide)
    simp only [this]
    decide
  rw [e, show ([] : List Int).length = 0 from rfl, show (ByteArray.mk #[]).size = 0 from rfl, vB_small 0 (by decide)]
  rfl
theorem chk_six : (chkN g6 [] (ByteArray.mk #[]).size).1 = 0 := by decide
theorem zero_one : Array.all (#[.int .i64 0, .int .i64 0, .int .i64 0, .int .i64 0, .int .i64 0, .int .i64 0, .int .i64 0, .int .i64 0, .int .i64 0, .int .i64 0, .slice none 0 0, .string ⟨#[]⟩] : Array Value) (fun v => v.oneCell') = true := by simp [Value.oneCell']
/-- A message that was sent, and where its tokens lie. -/
structure SM where
  g : Nat → Int
  A : List Int
  t : ByteArray
  b : Nat
  c : Nat
instance : Inhabited SM := ⟨⟨fun _ => 0, [], ⟨#[]⟩, 0, 0⟩⟩
def SM.cs (x : SM) : Array Value := msgC x.g (.slice (some ⟨x.b, 0, none⟩) x.A.length x.c) x.t
def sm (M : List SM) (i : Nat) : SM := M.getD i default
theorem sm_mem {M : List SM} {i : Nat} (h : i < M.length) : sm M i ∈ M := by
  unfold sm; rw [List.getD_eq_getElem?_getD, List.getElem?_eq_getElem h]; exact List.getElem_mem h
theorem mem_sm {M : List SM} {x : SM} (h : x ∈ M) : ∃ i, i < M.length ∧ sm M i = x := by
  obtain ⟨i, hi, e⟩ := List.getElem_of_mem h
  exact ⟨i, hi, by unfold sm; rw [List.getD_eq_getElem?_getD, List.getElem?_eq_getElem hi]; exact e⟩
def flatS : List SM → List Value
  | [] => []
  | x :: M => x.cs.toList ++ flatS M
theorem cs_len (x : SM) : x.cs.toList.length = 12 := rfl
theorem flatS_len : ∀ M : List SM, (flatS M).length = M.length * 12
  | [] => rfl
  | x :: M => by simp only [flatS, List.length_append, List.length_cons, flatS_len M, cs_len]; omega
theorem flatS_append : ∀ M N : List SM, flatS (M ++ N) = flatS M ++ flatS N
  | [], _ => rfl
  | _ :: M, N => by simp [flatS, flatS_append M N]
theorem flatS_at : ∀ (M : List SM) (i : Nat), i < M.length → ∀ j v, (sm M i).cs.toList[j]? = some v → (flatS M)[i * 12 + j]? = some v
  | [], _, h, _, _, _ => by simp at h
  | x :: M, 0, _, j, v, hv => by
    have hj : j < 12 := by have := (List.getElem?_eq_some_iff.1 hv).1; rwa [cs_len] at this
    rw [Nat.zero_mul, Nat.zero_add]
    show (x.cs.toList ++ flatS M)[j]? = some v
    rw [List.getElem?_append_left (by rw [cs_len]; omega)]
    exact hv
  | x :: M, i + 1, h, j, v, hv => by
    have ih := flatS_at M i (by simpa using h) j v hv
    show (x.cs.toList ++ flatS M)[(i + 1) * 12 + j]? = some v
    rw [List.getElem?_append_right (by rw [cs_len]; omega), cs_len, show (i + 1) * 12 + j - 12 = i * 12 + j by omega]
    exact ih
theorem cs_one (x : SM) : ∀ u ∈ x.cs.toList, u.oneCell' = true := by
  have := msg_one x.g (some ⟨x.b, 0, none⟩) x.A.length x.c x.t
  intro u hu
  have hu' : u ∈ x.cs := by simpa using hu
  exact (Array.all_eq_true_iff_forall_mem.1 this) u hu'
theorem flatS_one : ∀ (M : List SM) (u : Value), u ∈ flatS M → u.oneCell' = true
  | [], _, h => by simp [flatS] at h
  | x :: M, u, h => by
    rcases List.mem_append.1 h with h | h
    · exact cs_one x u h
    · exact flatS_one M u h
/-- A row of messages of the law's own. -/
def SRow (w : World) (B : Nat) (v : Value) (M : List SM) : Prop := w.ownsRow B 40 12 v M.length (flatS M)
theorem SRow.of_block {w w' : World} {B : Nat} {v : Value} {M : List SM} (h : SRow w B v M) (hb : ∀ g, v.ownBlock = some g → w'.heap[g]? = w.heap[g]?) : SRow w' B v M := by
  refine ⟨h.1, ?_⟩
  rcases h.2 with h2 | ⟨g, cap, cur, h3, h4, h5, h6⟩
  · exact Or.inl h2
  · exact Or.inr ⟨g, cap, cur, h3, h4, (hb g (by rw [h3]; rfl)).trans h5, h6⟩
theorem SRow.slice {w : World} {B : Nat} {v : Value} {M : List SM} (h : SRow w B v M) : ∃ ao c, v = .slice ao M.length c := by
  rcases h.2 with ⟨h2, h3⟩ | ⟨g, cap, cur, h3, _⟩
  · exact ⟨none, 0, by rw [h2, h3]⟩
  · exact ⟨_, _, h3⟩
theorem SRow.cells {w : World} {B : Nat} {v : Value} {M : List SM} (h : SRow w B v M) (hl : 0 < M.length) : ∃ g cap, v = .slice (some ⟨g, 0, none⟩) M.length cap ∧ M.length ≤ cap ∧ ∀ i, i < M.length → w.rangeAt g (0 + i * 12) (sm M i).cs.toList := by
  rcases h.2 with ⟨h2, h3⟩ | ⟨g, cap, cur, h3, h4, h5, h6, h7, h8, h9⟩
  · omega
  · refine ⟨g, cap, h3, h6, fun i hi j v hv => ?_⟩
    have hj : j < 12 := by have := (List.getElem?_eq_some_iff.1 hv).1; rwa [cs_len] at this
    have a := flatS_at M i hi j v hv
    rw [← h9, List.getElem?_take, if_pos (by omega)] at a
    have B : Blk w g 40 cur := h5
    rw [Nat.zero_add]
    exact B.cell _ (by simpa using a)
theorem iarg_same {w w' : World} {ao : Option Addr} {n ca : Nat} {A : List Int} (h : IArg w ao n ca A) (hg : 0 < n → ∀ ad, ao = some ad → w'.heap[ad.block]? = w.heap[ad.block]?) : IArg w' ao n ca A := by
  refine ⟨⟨h.row.len, h.row.max, h.row.small, fun hn => ?_⟩, h.fit, h.max, h.nil⟩
  obtain ⟨b, o, e, hc⟩ := h.row.cells hn
  refine ⟨b, o, e, fun t ht => ?_⟩
  have h1 := hc t ht
  have e2 := hg hn _ e
  unfold World.cell? at *
  simp only [e2]
  exact h1
/-- What the law holds beside its net in nb: a row of messages, and their tokens. -/
structure Inv (w0 : World) (nb : Nat) (w : World) (v : Value) (M : List SM) (L : List Pc) (lost : Int) : Prop where
  net : NetAt w nb L lost
  row : SRow w nb v M
  off : ∀ k, v.ownBlock = some k → Beside nb w k
  tok : ∀ x, x ∈ M → IArg w (some ⟨x.b, 0, none⟩) x.A.length x.c x.A ∧ (0 < x.A.length → Beside nb w x.b)
  old : Below w0.heap.size w0 w
  base : w0.heap.size ≤ nb
theorem Inv.turns {w0 : World} {nb : Nat} {w w' : World} {v : Value} {M : List SM} {L L' : List Pc} {lost lost' : Int} (h : Inv w0 nb w v M L lost) (t : Turns nb w w') (n : NetAt w' nb L' lost') : Inv w0 nb w' v M L' lost' :=
  ⟨n, h.row.of_block fun g hg => (h.off g hg).same t, fun k hk => (h.off k hk).turns t, fun x hx => by
    obtain ⟨a, b⟩ := h.tok x hx
    exact ⟨iarg_same a fun hn ad e => by injection e with e; subst e; exact (b hn).same t, fun hn => (b hn).turns t⟩,
   h.old.trans (t.below.mono h.base), h.base⟩
theorem Inv.below {w0 : World} {nb : Nat} {w w' : World} {v : Value} {M : List SM} {L : List Pc} {lost : Int} (h : Inv w0 nb w v M L lost) (B : Below w.heap.size w w') : Inv w0 nb w' v M L lost :=
  h.turns (Turns.of_below B h.net.lt) (h.net.below B)
theorem beside_fresh {nb b : Nat} {w w' : World} {L : List Pc} {lost : Int} (h : NetAt w nb L lost) (B : Below w.heap.size w w') (hb : w.heap.size ≤ b) (hl : b < w'.heap.size) : Beside nb w' b := by
  have e : rowBlk w' nb = rowBlk w nb := rowBlk_same (B.block nb h.lt)
  exact ⟨hl, by have := h.lt; omega, by rw [e]; intro e3; have := h.row_lt _ e3; omega⟩
theorem NetAt.grown {b : Nat} {w w' : World} {v : Value} {L : List Pc} {lost : Int} (h : NetAt w b L lost) (hv : ∀ k, v.ownBlock = some k → Beside b w k) (G : w.grownBy w' v.ownBlock) : NetAt w' b L lost ∧ rowBlk w' b = rowBlk w b := by
  have e0 : w'.heap[b]? = w.heap[b]? := G.block b h.lt (fun e => (hv b e.symm).ne rfl)
  exact ⟨h.of_blocks e0 fun g hg => G.block g (h.row_lt g hg).2 (fun e => (hv g e.symm).row hg), rowBlk_same e0⟩
theorem Tryd.infoRM : (Tryd.prog.info? 40).map (fun i => (i.zero, i.size, i.bytes)) = some (some (.agg #[.int .i64 0, .int .i64 0, .int .i64 0, .int .i64 0, .int .i64 0, .int .i64 0, .int .i64 0, .int .i64 0, .int .i64 0, .int .i64 0, .slice none 0 0, .string ⟨#[]⟩]), 12, 120) := by kernel_rfl
/-- append of a message onto the row. -/
theorem wpList_append_sent {ops : Array Oper} {rest : List Oper} {o : Oper} {a : Act} {w : World} {Q : Exit → Act → World → Prop} (hgd : o.guard = none) (s x : Operand)
    (ho : o.op = .call { callee := .builtin .append, args := #[s, x], argTypes := #[34, 34] })
    (w0 : World) (nb : Nat) (v : Value) (M : List SM) (L : List Pc) (lost : Int) (p : SM) (bo : Nat) (hs : a.eval s = v) (hx : a.eval x = .slice (some ⟨bo, 0, none⟩) 1 1)
    (hI : Inv w0 nb w v M L lost) (hX : Blk w bo 40 p.cs) (hp : IArg w (some ⟨p.b, 0, none⟩) p.A.length p.c p.A ∧ (0 < p.A.length → Beside nb w p.b ∧ v.ownBlock ≠ some p.b)) (ht : ∀ y, y ∈ M → 0 < y.A.length → v.ownBlock ≠ some y.b) (hlen : M.length ≤ 100)
    (h : ∀ v' w', Inv w0 nb w' v' (M ++ [p]) L lost → (∀ g', v'.ownBlock = some g' → v.ownBlock = some g' ∨ w.heap.size ≤ g') → wpList Tryd.prog ops Q rest (a.put o.dst v') w') : wpList Tryd.prog ops Q (o :: rest) a w := by
  obtain ⟨i0, hi, hz0, hz1, hz2⟩ := info_parts Tryd.infoRM
  refine wpList_append_own2 w hgd s x 34 ho nb 40 i0 _ 12 120 Tryd.underlying34 hi hz0 hz1 hz2 rfl (by decide) _ M.length _ hs hI.row ⟨bo, 0, none⟩ 1 1 p.cs.toList hx rfl ?_ (cs_one p) (by unfold maxLen; omega) (by omega) (Nat.le_of_lt hI.net.lt) ?_
  · intro j u hj
    rw [Addr.add_lit, Nat.zero_add]
    exact hX.cell j (by simpa using hj)
  · intro v' w' hown' hgr hnil hob
    have O : SRow w' nb v' (M ++ [p]) := by
      unfold SRow
      rw [flatS_append, List.length_append, show flatS [p] = p.cs.toList by simp [flatS]]
      exact hown'
    have hB : Below nb w w' := (Below.refl _ _).grown hgr (Nat.le_of_lt hI.net.lt) (fun k hk => (World.ownsRow.lt hI.row k hk).1)
    obtain ⟨N', e⟩ := hI.net.grown hI.off hgr
    have same : ∀ b, b < w.heap.size → v.ownBlock ≠ some b → w'.heap[b]? = w.heap[b]? := fun b h1 h2 => hgr.block b h1 (fun e => h2 e.symm)
    have keep : ∀ y : SM, IArg w (some ⟨y.b, 0, none⟩) y.A.length y.c y.A ∧ (0 < y.A.length → Beside nb w y.b) → (0 < y.A.length → v.ownBlock ≠ some y.b) → IArg w' (some ⟨y.b, 0, none⟩) y.A.length y.c y.A ∧ (0 < y.A.length → Beside nb w' y.b) := fun y hy hv => by
      refine ⟨iarg_same hy.1 fun hn ad e => ?_, fun hn => ?_⟩
      · injection e with e; subst e
        exact same y.b (hy.2 hn).lt (hv hn)
      · have q := hy.2 hn
        exact ⟨Nat.lt_of_lt_of_le q.lt hB.size, q.ne, by rw [e]; exact q.row⟩
    refine h v' w' ⟨N', O, fun k hk => ?_, fun y hy => ?_, hI.old.trans (hB.mono hI.base), hI.base⟩ (fun g' hg' => ?_)
    · have hlt := (World.ownsRow.lt O k hk).2
      rcases hob k hk with e2 | e2
      · have q := hI.off k e2
        exact ⟨hlt, q.ne, by rw [e]; exact q.row⟩
      · subst e2
        exact ⟨hlt, by have := hI.net.lt; omega, by rw [e]; intro e3; have := hI.net.row_lt _ e3; omega⟩
    · rcases List.mem_append.1 hy with hy | hy
      · exact keep y (hI.tok y hy) (ht y hy)
      · obtain rfl : y = p := by simpa using hy
        exact keep y ⟨hp.1, fun hn => (hp.2 hn).1⟩ (fun hn => (hp.2 hn).2)
    · rcases hob g' hg' with e2 | e2
      · exact Or.inl e2
      · exact Or.inr (by omega)
/-- The frame of a message. -/
def frL (x : SM) : List UInt8 := packL (mL x.g x.A x.t)
structure MOk (x : SM) : Prop where
  chk : (chkN x.g x.A x.t.size).1 = 0
  few : x.A.length ≤ 140
  len : x.t.size ≤ 1000
theorem MOk.ml {x : SM} (h : MOk x) : (mL x.g x.A x.t).length ≤ 50300 := mL_len (rt_of_chk h.chk).1
/-- A parcel on its way: its frame is that of a message that was sent, or one of which a burst of bits was turned. -/
def ParOk (M : List SM) (p : Pc) : Prop := ∃ x, x ∈ M ∧ p.fr.data.toList.length = (frL x).length ∧ ((p.tn = false ∧ p.fr = txt (frL x)) ∨ (p.tn = true ∧ ∃ t y, t ≤ 8 * (frL x).length ∧ y < 4294967296 ∧ numL p.fr.data.toList = numL (frL x) ^^^ 2 ^ t * y))
theorem ParOk.more {M N : List SM} {p : Pc} (h : ParOk M p) : ParOk (M ++ N) p := by
  obtain ⟨x, hx, r⟩ := h
  exact ⟨x, List.mem_append.2 (Or.inl hx), r⟩
theorem ParOk.size {M : List SM} {p : Pc} (h : ParOk M p) (hM : ∀ x, x ∈ M → MOk x) : p.fr.size ≤ 50310 := by
  obtain ⟨x, hx, hl, _⟩ := h
  have := (hM x hx).ml
  have e : p.fr.data.toList.length = p.fr.size := rfl
  unfold frL at hl
  rw [packL_length] at hl
  omega
theorem turnK_num (l : List UInt8) (t x : Nat) : ∀ k, numL (turnK l t x k) = numL l ^^^ 2 ^ t * bu x (8 * l.length - t) k
  | 0 => by rw [bu_zero]; simp [turnK]
  | k + 1 => by
    have ih := turnK_num l t x k
    have hl := turnK_length l t x k
    unfold turnK
    by_cases c1 : x / 2 ^ k % 2 = 1
    · by_cases c2 : t + k < 8 * l.length
      · rw [if_pos ⟨c1, c2⟩]
        exact flip_on l _ t k _ _ ih (bu_on x (8 * l.length - t) k (by omega) c1).1 (by rw [hl]; exact c2)
      · rw [if_neg (fun h => c2 h.2), bu_end x _ k (by omega)]
        exact ih
    · rw [if_neg (fun h => c1 h.1), bu_off x _ k c1]
      exact ih
theorem ParOk.turn {M : List SM} {p : Pc} (h : ParOk M p) (hn : p.tn = false) (t x : Nat) (ht : t < 8 * p.fr.size) (hx : x ≤ 4294967295) : ParOk M ⟨p.to, turnF p.fr t x, true⟩ := by
  obtain ⟨y, hy, hl, r⟩ := h
  rcases r with ⟨_, e⟩ | ⟨e, _⟩
  · have el : p.fr.data.toList = frL y := by rw [e, txt_list]
    have es : p.fr.size = (frL y).length := by rw [← hl]; rfl
    refine ⟨y, hy, ?_, Or.inr ⟨rfl, t, bu x (8 * (frL y).length - t) 32, by omega, bu_lt x _ (by omega), ?_⟩⟩
    · show (turnF p.fr t x).data.toList.length = _
      unfold turnF
      rw [txt_list, turnK_length]; exact hl
    · show numL (turnF p.fr t x).data.toList = _
      unfold turnF
      rw [txt_list, turnK_num, el]
  · rw [hn] at e; cases e
theorem ParOk.cases {M : List SM} {p : Pc} (h : ParOk M p) (hM : ∀ x, x ∈ M → MOk x) : (∃ x, x ∈ M ∧ p.fr = txt (frL x)) ∨ (p.tn = true ∧ ∃ fp fn, fltN p.fr.data.toList = some (fp, fn)) := by
  obtain ⟨x, hx, hl, r⟩ := h
  rcases r with ⟨_, e⟩ | ⟨e, t, y, ht, hy, hn⟩
  · exact Or.inl ⟨x, hx, e⟩
  · by_cases h0 : y = 0
    · subst h0
      rw [Nat.mul_zero, Nat.xor_zero] at hn
      have := numL_inj p.fr.data.toList (frL x) hl hn
      exact Or.inl ⟨x, hx, by rw [← this, txt_of]⟩
    · have hb := burst_told (frL x) p.fr.data.toList t y (flt_pack _ (by have := (hM x hx).ml; omega)) hl hn ht hy h0
      obtain ⟨⟨fp, fn⟩, hf⟩ := Option.ne_none_iff_exists'.1 hb
      exact Or.inr ⟨e, fp, fn, hf⟩
theorem pc_mem {L : List Pc} {i : Nat} (h : i < L.length) : pc L i ∈ L := by
  rw [← pc_get h]; exact List.getElem_mem h
theorem erase_ok {M : List SM} {L : List Pc} (h : ∀ p, p ∈ L → ParOk M p) (j : Nat) : ∀ p, p ∈ L.eraseIdx j → ParOk M p := fun p hp => h p (List.mem_of_mem_eraseIdx hp)
theorem snoc_ok {M : List SM} {L : List Pc} (h : ∀ p, p ∈ L → ParOk M p) {q : Pc} (hq : ParOk M q) : ∀ p, p ∈ L ++ [q] → ParOk M p := fun p hp => by
  rcases List.mem_append.1 hp with a | a
  · exact h p a
  · obtain rfl : p = q := by simpa using a
    exact hq
theorem set_ok {M : List SM} {L : List Pc} (h : ∀ p, p ∈ L → ParOk M p) {q : Pc} (hq : ParOk M q) (j : Nat) : ∀ p, p ∈ L.set j q → ParOk M p := fun p hp => by
  rcases List.mem_or_eq_of_mem_set hp with a | a
  · exact h p a
  · rw [a]; exact hq
end Go.Proofs.YtmoohnpffohgeaaDoor
