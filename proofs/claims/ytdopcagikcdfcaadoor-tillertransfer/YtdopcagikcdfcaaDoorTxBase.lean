/- TillerTransfer: both sides' state, and what goes between them. -/
import Derived.Test.YtdopcagikcdfcaaDoorTxView
namespace Go.Proofs.YtdopcagikcdfcaaDoor
open Go.ChangeShapes Go.WideShapes Go.ChangeAt Go.RowKit
theorem leftL_congr {C D : List Bool} : ∀ n, (∀ i, i < n → be C i = be D i) → leftL C n = leftL D n
  | 0, _ => rfl
  | n + 1, h => by
    have ih := leftL_congr n (fun i hi => h i (by omega))
    have h1 := h n (by omega)
    cases hb : be C n with
    | true => rw [leftL_come hb, leftL_come (by rw [← h1]; exact hb), ih]
    | false => rw [leftL_not hb, leftL_not (by rw [← h1]; exact hb), ih]
theorem Tryd.infoTAct : (Tryd.prog.info? 43).map (·.size) = some 4 := by kernel_rfl
theorem zero_one : Array.all (#[.int .i64 0, .int .i64 0, .int .i64 0, .int .i64 0, .int .i64 0, .int .i64 0, .int .i64 0, .int .i64 0, .int .i64 0, .int .i64 0, .slice none 0 0, .string ⟨#[]⟩] : Array Value) (fun v => v.oneCell') = true := by simp [Value.oneCell']
theorem act_one (a b c d : Int) : Array.all (#[.int .i64 a, .int .i64 b, .int .i64 c, .int .u32 d] : Array Value) (fun v => v.oneCell') = true := by simp [Value.oneCell']
theorem msg_one' (a0 a1 a2 a3 a4 a5 a6 a7 a8 a9 : Int) (ao : Option Addr) (n c : Nat) (t : ByteArray) : Array.all (#[.int .i64 a0, .int .i64 a1, .int .i64 a2, .int .i64 a3, .int .i64 a4, .int .i64 a5, .int .i64 a6, .int .i64 a7, .int .i64 a8, .int .i64 a9, .slice ao n c, .string t] : Array Value) (fun v => v.oneCell') = true := by simp [Value.oneCell']
/-- Both sides: what is sent (S) and known to have come (Cs), what has come (S', C'). -/
structure TxI (w0 : World) (bs br : Nat) (num : Int) (n : Nat) (S : List ByteArray) (wr : World) (a : Option Addr) (c : Nat) (a2 : Option Addr) (c2 : Nat) (b : Option Addr) (d : Nat) (b2 : Option Addr) (d2 : Nat) (S' : List ByteArray) (C' Cs : List Bool) : Prop where
  good : Good S S' C' n
  sub : ∀ j, j < n → be Cs j = true → be C' j = true
  xs : Blk wr bs 30 #[.int .i64 num, .slice a n c, .slice a2 n c2]
  ps : VOwn wr 0 9 (.slice a n c) n (strs S)
  cs : VOwn wr 0 4 (.slice a2 n c2) n (bools Cs)
  xr : Blk wr br 33 #[.int .i64 num, .slice b n d, .slice b2 n d2]
  po : VOwn wr 0 9 (.slice b n d) n (strs S')
  co : VOwn wr 0 4 (.slice b2 n d2) n (bools C')
  old : Below w0.heap.size w0 wr
theorem TxI.below {w0 : World} {bs br : Nat} {num : Int} {n : Nat} {S : List ByteArray} {wr w' : World} {a : Option Addr} {c : Nat} {a2 : Option Addr} {c2 : Nat} {b : Option Addr} {d : Nat} {b2 : Option Addr} {d2 : Nat} {S' : List ByteArray} {C' Cs : List Bool}
    (h : TxI w0 bs br num n S wr a c a2 c2 b d b2 d2 S' C' Cs) (B : Below wr.heap.size wr w') : TxI w0 bs br num n S w' a c a2 c2 b d b2 d2 S' C' Cs :=
  ⟨h.good, h.sub, h.xs.below B, VOwn.below h.ps B, VOwn.below h.cs B, h.xr.below B, VOwn.below h.po B, VOwn.below h.co B, below_then h.old B⟩
theorem TxI.recv {w0 : World} {bs br : Nat} {num : Int} {n : Nat} {S : List ByteArray} {wr : World} {a : Option Addr} {c : Nat} {a2 : Option Addr} {c2 : Nat} {b : Option Addr} {d : Nat} {b2 : Option Addr} {d2 : Nat} {S' : List ByteArray} {C' Cs : List Bool}
    (h : TxI w0 bs br num n S wr a c a2 c2 b d b2 d2 S' C' Cs) (hbb : bs ≠ br) (hw : w0.heap.size ≤ br) {B : Nat} {x : Option Addr} {y : Nat} {u : Option Addr} {v : Nat} {S2 : List ByteArray} {C2 : List Bool} (hg : Good S S2 C2 n) (hs : ∀ j, j < n → be C' j = true → be C2 j = true)
    (hp : VOwn wr B 9 (.slice x n y) n (strs S2)) (hc : VOwn wr B 4 (.slice u n v) n (bools C2)) : TxI w0 bs br num n S (wr.setRow br #[.int .i64 num, .slice x n y, .slice u n v]) a c a2 c2 x y u v S2 C2 Cs :=
  ⟨hg, fun j hj e => hs j hj (h.sub j hj e), h.xs.of_block (setRow_other _ _ _ _ hbb),
    VOwn.of_block h.ps (fun g e _ _ => setRow_other _ _ _ _ (VOwn.ne_blk h.ps h.xr ne_SR g e)),
    VOwn.of_block h.cs (fun g e _ _ => setRow_other _ _ _ _ (VOwn.ne_blk h.cs h.xr ne_BR g e)),
    h.xr.row _,
    VOwn.base (VOwn.of_block hp (fun g e _ _ => setRow_other _ _ _ _ (VOwn.ne_blk hp h.xr ne_SR g e))) (Nat.zero_le _),
    VOwn.base (VOwn.of_block hc (fun g e _ _ => setRow_other _ _ _ _ (VOwn.ne_blk hc h.xr ne_BR g e))) (Nat.zero_le _),
    belowR h.old hw _⟩
theorem TxI.send {w0 : World} {bs br : Nat} {num : Int} {n : Nat} {S : List ByteArray} {wr : World} {a : Option Addr} {c : Nat} {a2 : Option Addr} {c2 : Nat} {b : Option Addr} {d : Nat} {b2 : Option Addr} {d2 : Nat} {S' : List ByteArray} {C' Cs : List Bool}
    (h : TxI w0 bs br num n S wr a c a2 c2 b d b2 d2 S' C' Cs) (hbb : bs ≠ br) (hw : w0.heap.size ≤ bs) {B : Nat} {x : Option Addr} {y : Nat} {u : Option Addr} {v : Nat} {D : List Bool} (hs : ∀ j, j < n → be D j = true → be C' j = true)
    (hp : VOwn wr B 9 (.slice x n y) n (strs S)) (hc : VOwn wr B 4 (.slice u n v) n (bools D)) : TxI w0 bs br num n S (wr.setRow bs #[.int .i64 num, .slice x n y, .slice u n v]) x y u v b d b2 d2 S' C' D :=
  ⟨h.good, hs, h.xs.row _,
    VOwn.base (VOwn.of_block hp (fun g e _ _ => setRow_other _ _ _ _ (VOwn.ne_blk hp h.xs ne_SS g e))) (Nat.zero_le _),
    VOwn.base (VOwn.of_block hc (fun g e _ _ => setRow_other _ _ _ _ (VOwn.ne_blk hc h.xs ne_BS g e))) (Nat.zero_le _),
    h.xr.of_block (setRow_other _ _ _ _ (Ne.symm hbb)),
    VOwn.of_block h.po (fun g e _ _ => setRow_other _ _ _ _ (VOwn.ne_blk h.po h.xs ne_SS g e)),
    VOwn.of_block h.co (fun g e _ _ => setRow_other _ _ _ _ (VOwn.ne_blk h.co h.xs ne_BS g e)),
    belowR h.old hw _⟩
theorem got_le (C : List Bool) (n k : Nat) : (leftL (gotB C n k) n).length ≤ (leftL C n).length := by
  cases hb : be C k with
  | true =>
    rw [leftL_congr (C := gotB C n k) (D := C) n (fun i hi => by
      rw [gotB_be C n k i hi]
      by_cases e : i = k
      · rw [e, hb]; simp
      · rw [decide_eq_false e, Bool.false_or])]
    exact Nat.le_refl _
  | false =>
    have := leftL_less C n k hb n (Nat.le_refl _)
    split at this <;> omega
theorem got_lt (C : List Bool) (n k : Nat) (hb : be C k = false) (hk : k < n) : (leftL (gotB C n k) n).length + 1 = (leftL C n).length := by
  have := leftL_less C n k hb n (Nat.le_refl _)
  rw [if_pos hk] at this
  exact this
/-- The part's message. -/
def gM (num at_ of_ : Int) : Nat → Int := fun i => if i = 0 then 2 else if i = 6 then num else if i = 8 then at_ else if i = 9 then of_ else 0
theorem gM_chk (num at_ of_ : Int) (tl : Nat) (h1 : 0 ≤ num ∧ num ≤ 1099511627776) (h2 : 0 ≤ at_ ∧ at_ ≤ 1099511627776) (h3 : 0 ≤ of_ ∧ of_ ≤ 1099511627776) (h4 : tl ≤ 50000) : (chkN (gM num at_ of_) [] tl).1 = 0 := by
  rw [chk_rest (by unfold gM; simp) (fun j hj => by
    unfold badI gM
    rw [decide_eq_false_iff_not]
    split
    · omega
    · split
      · omega
      · split
        · omega
        · split <;> omega)]
  rw [if_neg (by simp), if_neg (by simp), if_neg (by omega)]
theorem gM_in (num at_ of_ : Int) (h1 : 0 ≤ num ∧ num ≤ 1099511627776) (h2 : 0 ≤ at_ ∧ at_ ≤ 1099511627776) (h3 : 0 ≤ of_ ∧ of_ ≤ 1099511627776) : ∀ k, k < 10 → -9223372036854775808 ≤ gM num at_ of_ k ∧ gM num at_ of_ k ≤ 9223372036854775807 := fun k _ => by
  unfold gM
  split
  · omega
  · split
    · omega
    · split
      · omega
      · split <;> omega
theorem gM_v (num at_ of_ : Int) (tok : Value) (t : ByteArray) : msgV (gM num at_ of_) tok t = .agg #[.int .i64 2, .int .i64 0, .int .i64 0, .int .i64 0, .int .i64 0, .int .i64 0, .int .i64 num, .int .i64 0, .int .i64 at_, .int .i64 of_, tok, .string t] := rfl
theorem gM_len (num at_ of_ : Int) (t : ByteArray) (h : (chkN (gM num at_ of_) [] t.size).1 = 0) : (mL (gM num at_ of_) [] t).length ≤ 50300 := mL_len (rt_of_chk h).1
theorem PRow.range {w : World} {B : Nat} {a : Option Addr} {n c : Nat} {R : List (List Value)} (h : PRow w B (.slice a n c) R) (j : Nat) (hj : j < n) (y0 y1 y2 : Int) (y3 : ByteArray) (hR : R.getD j [] = partR y0 y1 y2 y3) :
    ∃ g, a = some ⟨g, 0, none⟩ ∧ w.rangeAt g (j * 4) [.int .i64 y0, .int .i64 y1, .int .i64 y2, .string y3] := by
  obtain ⟨g, e, _, _, hc⟩ := h.cells (by omega)
  refine ⟨g, e, fun i v hv => ?_⟩
  have hi : i < 4 := by have := (List.getElem?_eq_some_iff.1 hv).1; simpa using this
  have := hc j i hj hi
  rw [hR] at this
  rw [this]
  exact hv
theorem Blk.ne_ty {w : World} {g h : Nat} {T T' : TypeId} {cs ds : Array Value} (a : Blk w g T cs) (b : Blk w h T' ds) (hT : T ≠ T') : g ≠ h := by
  rintro rfl
  unfold Blk at a b
  rw [a] at b
  injection b with b
  injection b with _ e _
  exact hT e
theorem PRow.ne_blk {w : World} {B b : Nat} {T' : TypeId} {v : Value} {R : List (List Value)} {cs : Array Value} (h : PRow w B v R) (h' : Blk w b T' cs) (hT : (40 : TypeId) ≠ T') (g : Nat) (e : v.ownBlock = some g) : g ≠ b := by
  rintro rfl
  rcases h.own.2 with ⟨h2, h3⟩ | ⟨g', cap, cur, h3, h4, h5, _⟩
  · rw [h2] at e; cases e
  · rw [h3] at e
    simp only [Value.ownBlock, Option.some.injEq] at e
    subst e
    unfold Blk at h'
    rw [h'] at h5
    injection h5 with h5
    injection h5 with _ e2 _
    exact hT e2.symm
end Go.Proofs.YtdopcagikcdfcaaDoor
