/- Contracts of the program's functions, part 10 of 13: what each call returns and leaves of memory. -/
import Derived.Test.YtcanjlofnpnhkaaGreatDoorPk9
import Derived.Test.YtcanjlofnpnhkaaGreatDoorPk6
import Derived.Lib.ConvBytes
/- Package block: Join. -/
namespace Go.Proofs.YtcanjlofnpnhkaaGreatDoor
open Go.ChangeShapes Go.WideShapes Go.ChangeAt Go.RowKit
/-- Lists, side by side. -/
def catC (A B : List (List (List Int))) : List (List (List Int)) := (List.range B.length).map fun t => A.getD t [] ++ B.getD t []
theorem catC_len (A B : List (List (List Int))) : (catC A B).length = B.length := by unfold catC; simp
theorem catC_at {A B : List (List (List Int))} {t : Nat} (h : t < B.length) : (catC A B).getD t [] = A.getD t [] ++ B.getD t [] := by
  unfold catC
  rw [List.getD_eq_getElem?_getD, List.getElem?_map, List.getElem?_range h]
  rfl
def noVw : Vw := ⟨[], [], []⟩
/-- The view of pages, behind another one. -/
def jnS (Vo D L : Int) : Vw → List Pg → Int × Vw
  | X, [] => (0, X)
  | X, b :: l => if ckN Vo D L b ≠ 0 then (ckN Vo D L b, noVw) else if b.T.take b.F.toNat = X.T then jnS Vo D L ⟨b.T, catC X.K b.K, catC X.V b.V⟩ l else (8, noVw)
theorem rfB_spec {C : List (List (List Int))} {places dim : Int} (h : rfB C places dim = true) : ∀ R ∈ C, (R.length : Int) = places ∧ ∀ r ∈ R, (r.length : Int) = dim := by
  intro R hR
  unfold rfB at h
  have h1 := List.all_eq_true.1 h R hR
  unfold rfR at h1
  rw [Bool.and_eq_true, List.all_eq_true] at h1
  exact ⟨by simpa using h1.1, fun r hr => by simpa using h1.2 r hr⟩
theorem ck_zero {Vo D L : Int} {X : Pg} (h : ckN Vo D L X = 0) : plB X.T.length X.F = true ∧ (X.K.length : Int) = L ∧ (X.V.length : Int) = L ∧ X.T.all (tokB Vo) = true ∧ rfB X.K ((X.T.length : Int) - X.F) D = true ∧ rfB X.V ((X.T.length : Int) - X.F) D = true := by
  unfold ckN at h
  split at h
  · cases h
  · rename_i h1
    split at h
    · rename_i h2
      split at h
      · rename_i h3
        refine ⟨?_, ?_, ?_, h2, h3.1, h3.2⟩
        · cases e : plB X.T.length X.F with
          | true => rfl
          | false => exact absurd (Or.inl e) h1
        · by_cases e : (X.K.length : Int) = L
          · exact e
          · exact absurd (Or.inr (Or.inl e)) h1
        · by_cases e : (X.V.length : Int) = L
          · exact e
          · exact absurd (Or.inr (Or.inr e)) h1
      · cases h
    · cases h
theorem GLV.congr {w : World} {s : Nat} {S p : Nat → Prop} {L : Nat} {n c : Nat} {F F' : Nat → List (List Int)} (h : GLV w s S p L (some ⟨n, c, none⟩) L L F) (hF : ∀ t, t < L → F' t = F t) : GLV w s S p L (some ⟨n, c, none⟩) L L F' := by
  rcases h with ⟨e, _⟩ | ⟨g, e1, e2, e3, G⟩
  · cases e
  · exact Or.inr ⟨g, e1, e2, e3, G.congr hF⟩
theorem GLV.lt {w : World} {s : Nat} {S p : Nat → Prop} {L : Nat} {a : Option Addr} {n c : Nat} {F : Nat → List (List Int)} (h : GLV w s S p L a n c F) {b : Nat} (hb : S b ∨ p b) : b < w.heap.size := by
  rcases h with ⟨_, _, _, _, h1, h2⟩ | ⟨g, _, _, _, G⟩
  · rcases hb with k | k
    · exact absurd k (h1 b)
    · exact absurd k (h2 b)
  · rcases hb with k | k
    · exact (G.sS b k).2
    · exact (G.sp b k).2.1
theorem GLV.other {w w' : World} {s : Nat} {S p : Nat → Prop} {L : Nat} {a : Option Addr} {n c : Nat} {F : Nat → List (List Int)} (h : GLV w s S p L a n c F) (hs : w.heap.size ≤ w'.heap.size) (hb : ∀ b, S b ∨ p b → w'.heap[b]? = w.heap[b]?) : GLV w' s S p L a n c F := by
  rcases h with h | ⟨g, e1, e2, e3, G⟩
  · exact Or.inl h
  · exact Or.inr ⟨g, e1, e2, e3, G.other hs hb⟩
theorem GLV.below {w w' : World} {s : Nat} {S p : Nat → Prop} {L : Nat} {a : Option Addr} {n c : Nat} {F : Nat → List (List Int)} (h : GLV w s S p L a n c F) (hb : Below w.heap.size w w') : GLV w' s S p L a n c F :=
  h.other hb.size fun b hB => hb.block b (h.lt hB)
theorem GLV.new {w : World} {s : Nat} {S p : Nat → Prop} {L : Nat} {a : Option Addr} {n c : Nat} {C : List (List (List Int))} (h : GLV w s S p L a n c (fun t => C.getD t [])) (hC : C.length = n) (hL : L ≤ 4096) : Hangs (fun b => s ≤ b) w (fun w => CubeAt w a n C) := by
  rcases h with ⟨e1, e2, e3, h1, _⟩ | ⟨g, e1, e2, e3, G⟩
  · intro w2 _
    rw [e2] at hC ⊢
    exact ⟨hC, by omega, fun h => by omega⟩
  · rw [e1, e2]
    exact G.new (by rw [hC, e2]) (by omega) (fun t _ => rfl)
theorem glv_nil (w : World) (s L : Nat) (S p : Nat → Prop) (hS : ∀ b, ¬ S b) (hp : ∀ b, ¬ p b) : GLV w s S p L none 0 0 (fun t => ([] : List (List (List Int))).getD t []) := Or.inl ⟨rfl, rfl, rfl, fun t => by simp, hS, hp⟩
theorem noVw_at (w : World) : VwAt w ⟨⟨none, 0, 0⟩, ⟨none, 0, 0⟩, ⟨none, 0, 0⟩⟩ noVw := ⟨iarg_nil w, ⟨rfl, Nat.zero_le _, fun h => by simp at h⟩, ⟨rfl, Nat.zero_le _, fun h => by simp at h⟩⟩
theorem rowOf_mem {R : List (List Int)} {t : Nat} (h : t < R.length) : rowOf R t ∈ R := by
  unfold rowOf
  rw [List.getD_eq_getElem?_getD, List.getElem?_eq_getElem h]
  exact List.getElem_mem h
set_option maxRecDepth 100000 in
set_option maxHeartbeats 6400000 in
theorem join_gen (Vo D Hd H L : Int) (s : Sl) (l : List Pg) (w : World) (hs : PgsAt w s l) (hF : ∀ X ∈ l, -9223372036854775808 ≤ X.F ∧ X.F ≤ 9223372036854775807) (hB : ∀ X ∈ l, ckN Vo D L X = 0 → X.K.length ≤ 4096 ∧ (∀ R ∈ X.K, ∀ r ∈ R, r.length ≤ 1048576) ∧ ∀ R ∈ X.V, ∀ r ∈ R, r.length ≤ 1048576) :
   Calls Tryz.prog 16 #[.agg (cfgC Vo D Hd H L), s.v] w fun e w' => ∃ v : VwV, e = .returned (.tuple #[.agg v.cells, .int .i64 (jnS Vo D L noVw l).1]) ∧ New w.heap.size w' (fun w => VwAt w v (jnS Vo D L noVw l).2) ∧ Below w.heap.size w w' := by
  obtain ⟨sa, n, sc⟩ := s
  have hln : l.length = n := hs.len
  have hmx : n ≤ 1000000 := hs.max
  have HS : Hid (PgsAt w ⟨sa, n, sc⟩ l) := hs
  have HLN : Hid (l.length = n) := hln
  have HF : Hid (∀ X ∈ l, -9223372036854775808 ≤ X.F ∧ X.F ≤ 9223372036854775807) := hF
  obtain ⟨LN, hLN⟩ : ∃ LN, LN = min L.toNat 4096 := ⟨_, rfl⟩
  have HLL : Hid (∀ q : Nat, (q : Int) = L → q ≤ 4096 → q = LN) := fun q hq _ => by omega
  have HBB : Hid (∀ X ∈ l, ckN Vo D L X = 0 → X.K.length ≤ 4096 ∧ (∀ R ∈ X.K, ∀ r ∈ R, r.length ≤ 1048576) ∧ ∀ R ∈ X.V, ∀ r ∈ R, r.length ≤ 1048576) := hB
  have hL2 : LN ≤ 4096 := by omega
  obtain ⟨RS, hRS⟩ : ∃ RS, jnS Vo D L noVw l = RS := ⟨_, rfl⟩
  rw [hRS]
  have HRS : Hid (jnS Vo D L noVw l = RS) := hRS
  clear hs hF hRS hln hLN hB
  show Calls Tryz.prog 16 #[.agg (cfgC Vo D Hd H L), .slice sa n sc] w _
  have X0 := blk_new w 23 (cfgC Vo D Hd H L)
  have B0 : Below w.heap.size w (w.alloc (.cells (cfgC Vo D Hd H L) 23)) := (Below.refl _ _).alloc (Nat.le_refl _) _
  have s0 : (w.alloc (.cells (cfgC Vo D Hd H L) 23)).heap.size = w.heap.size + 1 := by simp
  have CKA := fun (p : PgV) (X : Pg) (wv : World) h1 h2 => check11_any Vo D Hd H L p X wv h1 h2
  have HX0 : Hid (Blk (w.alloc (.cells (cfgC Vo D Hd H L) 23)) w.heap.size 23 (cfgC Vo D Hd H L)) := X0
  clear X0
  rw [show cfgC Vo D Hd H L = #[.int .i64 Vo, .int .i64 D, .int .i64 Hd, .int .i64 H, .int .i64 L] from rfl] at B0 s0 HX0 CKA ⊢
  generalize hw0 : w.alloc (.cells #[.int .i64 Vo, .int .i64 D, .int .i64 Hd, .int .i64 H, .int .i64 L] 23) = w0 at *
  have X1 := blk_new w0 48 #[.slice none 0 0, .slice none 0 0, .slice none 0 0]
  have B1 : Below w0.heap.size w0 (w0.alloc (.cells #[.slice none 0 0, .slice none 0 0, .slice none 0 0] 48)) := (Below.refl _ _).alloc (Nat.le_refl _) _
  have s1 : (w0.alloc (.cells #[.slice none 0 0, .slice none 0 0, .slice none 0 0] 48)).heap.size = w.heap.size + 2 := by simp; omega
  rw [s0] at X1
  generalize hw1 : w0.alloc (.cells #[.slice none 0 0, .slice none 0 0, .slice none 0 0] 48) = w1 at *
  have X2 := blk_new w1 48 #[.slice none 0 0, .slice none 0 0, .slice none 0 0]
  have B2 : Below w1.heap.size w1 (w1.alloc (.cells #[.slice none 0 0, .slice none 0 0, .slice none 0 0] 48)) := (Below.refl _ _).alloc (Nat.le_refl _) _
  have s2 : (w1.alloc (.cells #[.slice none 0 0, .slice none 0 0, .slice none 0 0] 48)).heap.size = w.heap.size + 3 := by simp; omega
  rw [s1] at X2
  generalize hw2 : w1.alloc (.cells #[.slice none 0 0, .slice none 0 0, .slice none 0 0] 48) = w2 at *
  have XC := (HX0.out.below B1).below B2
  replace X1 := X1.below B2
  have BB2 := below_then (below_then B0 B1) B2
  clear HX0
  go_enter Tryz.func16, Tryz.ntmps16
  go_wp2_with fail
  clear hw0 hw1 hw2 s0 s1 B0 B1 B2
  go_loopg [12] n (fun r i wr => ∃ (k : Nat) (X : Vw) (ta : Option Addr) (tn tz : Nat) (ka : Option Addr) (kn kz : Nat) (va : Option Addr) (vn vz : Nat) (Sk pk Sv pv : Nat → Prop), k ≤ n ∧ r = n - k ∧ i = .int .i64 (k : Int) ∧ Hid (jnS Vo D L X (l.drop k) = RS) ∧ Blk wr (w.heap.size + 2) 48 #[.slice ta tn tz, .slice ka kn kz, .slice va vn vz] ∧ Blk wr (w.heap.size + 1) 48 noV ∧ Blk wr w.heap.size 23 (cfgC Vo D Hd H L) ∧ Hid (∃ pt : Nat → Prop, Hangs pt wr (fun w => IArg w ta tn tz X.T) ∧ ∀ b, pt b → w.heap.size + 3 ≤ b ∧ b < wr.heap.size ∧ ¬ Sk b ∧ ¬ Sv b) ∧ Hid (GLV wr w.heap.size Sk pk LN ka kn kz (fun t => X.K.getD t [])) ∧ Hid (GLV wr w.heap.size Sv pv LN va vn vz (fun t => X.V.getD t [])) ∧ Hid (∀ b, ((Sk b ∨ pk b) → ¬ Sv b) ∧ ((Sv b ∨ pv b) → ¬ Sk b)) ∧ Hid (∀ b, Sk b ∨ pk b ∨ Sv b ∨ pv b → w.heap.size + 3 ≤ b) ∧ Hid (X.K.length = kn ∧ X.V.length = vn ∧ X.T.length ≤ 128 ∧ ∀ t, t < LN → (X.K.getD t []).length = X.T.length ∧ (X.V.getD t []).length = X.T.length) ∧ Below w.heap.size w wr)
  case atStart => exact ⟨0, noVw, none, 0, 0, none, 0, 0, none, 0, 0, fun _ => False, fun _ => False, fun _ => False, fun _ => False, by omega, by omega, rfl, HRS.out, X2, X1, XC, ⟨fun _ => False, fun _ _ => iarg_nil _, fun b hb => hb.elim⟩, glv_nil _ _ _ _ _ (fun _ => id) (fun _ => id), glv_nil _ _ _ _ _ (fun _ => id) (fun _ => id), fun b => ⟨fun _ => id, fun _ => id⟩, fun b hb => by simp at hb, ⟨rfl, rfl, by simp [noVw], fun t _ => ⟨by simp [noVw], by simp [noVw]⟩⟩, BB2⟩
  case round =>
    clear X1 X2 XC BB2 s2
    obtain ⟨k, X, ta, tn, tz, ka, kn, kz, va, vn, vz, Sk, pk, Sv, pv, hk, rfl, rfl, HJ, X2, X1, XC, HT, HK, HV, HDJ, HSK, HLEN0, BB⟩ := hrel
    by_cases hlt : k < n
    · obtain ⟨g, o, e5, hc⟩ := HS.out.cells (by show 0 < n; omega)
      have e5' : sa = some ⟨g, o, none⟩ := e5
      subst e5'
      have hX : l[k]? = some (l[k]'(by rw [HLN.out]; exact hlt)) := List.getElem?_eq_getElem _
      have hmem : l[k]'(by rw [HLN.out]; exact hlt) ∈ l := List.getElem_mem _
      have HDR : Hid (l.drop k = l[k]'(by rw [HLN.out]; exact hlt) :: l.drop (k + 1)) := List.drop_eq_getElem_cons _
      generalize l[k]'(by rw [HLN.out]; exact hlt) = P at hX hmem HDR
      obtain ⟨⟨⟨p1, p2, p3⟩, pf, ⟨p4, p5, p6⟩, ⟨p7, p8, p9⟩⟩, r0, PA⟩ := hc k P hX
      have hPF := HF.out P hmem
      have HBP : Hid (ckN Vo D L P = 0 → P.K.length ≤ 4096 ∧ (∀ R ∈ P.K, ∀ r ∈ R, r.length ≤ 1048576) ∧ ∀ R ∈ P.V, ∀ r ∈ R, r.length ≤ 1048576) := HBB.out P hmem
      obtain ⟨T, F, K, V⟩ := P
      have epf : pf = F := PA.f
      subst epf
      replace r0 := pg_range r0 BB
      rw [show PgV.cells ⟨⟨p1, p2, p3⟩, pf, ⟨p4, p5, p6⟩, ⟨p7, p8, p9⟩⟩ = #[.slice p1 p2 p3, .int .i64 pf, .slice p4 p5 p6, .slice p7 p8 p9] from rfl] at r0
      have HPA : Hid (∀ wv, Below w.heap.size w wv → PgAt wv ⟨⟨p1, p2, p3⟩, pf, ⟨p4, p5, p6⟩, ⟨p7, p8, p9⟩⟩ ⟨T, pf, K, V⟩) := fun wv hb => PA.below hb
      have hszr := BB.size
      have hx2l := X2.lt
      have XZ := blk_new wr 30 #[.slice none 0 0, .int .i64 0, .slice none 0 0, .slice none 0 0]
      have BZ : Below wr.heap.size wr (wr.alloc (.cells #[.slice none 0 0, .int .i64 0, .slice none 0 0, .slice none 0 0] 30)) := (Below.refl _ _).alloc (Nat.le_refl _) _
      generalize hwz : wr.alloc (.cells #[.slice none 0 0, .int .i64 0, .slice none 0 0, .slice none 0 0] 30) = wz at *
      have XR := XZ.row #[.slice p1 p2 p3, .int .i64 pf, .slice p4 p5 p6, .slice p7 p8 p9]
      have BR := below_setRow BZ (Nat.le_refl _) #[.slice p1 p2 p3, .int .i64 pf, .slice p4 p5 p6, .slice p7 p8 p9]
      generalize hwy : wz.setRow wr.heap.size #[.slice p1 p2 p3, .int .i64 pf, .slice p4 p5 p6, .slice p7 p8 p9] = wy at *
      have CK := CKA _ _ wy (HPA.out wy (below_then BB BR)) hPF
      have CK2 : Calls Tryz.prog 21 #[.agg #[.int .i64 Vo, .int .i64 D, .int .i64 Hd, .int .i64 H, .int .i64 L], .agg #[.slice p1 p2 p3, .int .i64 pf, .slice p4 p5 p6, .slice p7 p8 p9]] wy fun e w' => e = .returned (.int .i64 (ckN Vo D L ⟨T, pf, K, V⟩)) ∧ Below wy.heap.size wy w' := CK
      have d0 : wy.cell? ⟨w.heap.size, 0, none⟩ = some (.int .i64 Vo) := (XC.below BR).cell 0 rfl
      have d1 : wy.cell? ⟨w.heap.size, 1, none⟩ = some (.int .i64 D) := (XC.below BR).cell 1 rfl
      have d2 : wy.cell? ⟨w.heap.size, 2, none⟩ = some (.int .i64 Hd) := (XC.below BR).cell 2 rfl
      have d3 : wy.cell? ⟨w.heap.size, 3, none⟩ = some (.int .i64 H) := (XC.below BR).cell 3 rfl
      have d4 : wy.cell? ⟨w.heap.size, 4, none⟩ = some (.int .i64 L) := (XC.below BR).cell 4 rfl
      have e0 : wy.cell? ⟨wr.heap.size, 0, none⟩ = some (.slice p1 p2 p3) := XR.cell 0 rfl
      have e1 : wy.cell? ⟨wr.heap.size, 1, none⟩ = some (.int .i64 pf) := XR.cell 1 rfl
      have e2 : wy.cell? ⟨wr.heap.size, 2, none⟩ = some (.slice p4 p5 p6) := XR.cell 2 rfl
      have e3 : wy.cell? ⟨wr.heap.size, 3, none⟩ = some (.slice p7 p8 p9) := XR.cell 3 rfl
      clear hc PA hX hmem CK
      obtain ⟨cn, hcn⟩ : ∃ cn, ckN Vo D L ⟨T, pf, K, V⟩ = cn := ⟨_, rfl⟩
      rw [hcn] at CK2
      have HCN : Hid (ckN Vo D L ⟨T, pf, K, V⟩ = cn) := hcn
      clear hcn
      go_upto_region 5 with (first | (refine wpList_load_mid rfl 30 _ rfl g (o + k * 4) rfl [.slice p1 p2 p3, .int .i64 pf, .slice p4 p5 p6, .slice p7 p8 p9] _ r0 Tryz.underlying30 rfl (by exact Tryz.infoPg) ?_) | (refine wpList_store_row rfl 30 _ _ rfl wr.heap.size #[.slice p1 p2 p3, .int .i64 pf, .slice p4 p5 p6, .slice p7 p8 p9] rfl rfl 30 _ XZ (by exact Tryz.infoPg) rfl (by simp [Value.oneCell']) ?_; rw [hwy]))
      clear r0
      go_wp2_with fail
      refine CK2.mono ?_
      rintro e w3 ⟨rfl, B3⟩
      have B3r := below_then BR B3
      have X2' := X2.below B3r
      have X1' := X1.below B3r
      have XC' := XC.below B3r
      have XB := XR.below B3
      have DB := below_then BB B3r
      clear d0 d1 d2 d3 d4 e0 e1 e2 e3 CK2 hwz hwy XZ XR
      by_cases h0 : cn = 0
      · subst h0
        obtain ⟨h1, h2, h3, h4, h5, h6⟩ := ck_zero HCN.out
        simp only at h1 h2 h3 h4 h5 h6
        obtain ⟨j1, j2, j3, j4⟩ := plB_true h1
        obtain ⟨f, rfl⟩ : ∃ f : Nat, pf = (f : Int) := ⟨pf.toNat, by omega⟩
        have ePT : T.length = p2 := (HPA.out w (Below.refl _ _)).t.row.len
        have ePK : K.length = p5 := (HPA.out w (Below.refl _ _)).k.len
        have ePV : V.length = p8 := (HPA.out w (Below.refl _ _)).v.len
        obtain ⟨hB1, hB2, hB3⟩ := HBP.out HCN.out
        have hLK := HLL.out _ h2 hB1
        have hLV := HLL.out _ h3 (by omega)
        have HLK : Hid (K.length = LN) := hLK
        have HLV : Hid (V.length = LN) := hLV
        obtain rfl : LN = p5 := by omega
        obtain rfl : LN = p8 := by omega
        have sp5 := rfB_spec h5
        have sp6 := rfB_spec h6
        have hp23 := (HPA.out w (Below.refl _ _)).t.fit
        simp only at hp23
        obtain ⟨pt, NT, hpt⟩ := HT.out
        have AT := (NT.below B3r).now
        have et := AT.row.len
        have CE := fun wv (hb : Below wy.heap.size wy wv) => trivial
        have HA1 : Hid (IRowAt w3 p1 f (T.take f)) := ((HPA.out w3 DB).t.take (by simp only; omega)).row
        have CQ := fun m => iequal_any p1 ta f tn p3 tz (T.take f) X.T (w3.drewN m) (HA1.out.below (below_drewN (Below.refl _ _) m)) (AT.row.below (below_drewN (Below.refl _ _) m))
        have e0 : w3.cell? ⟨wr.heap.size, 0, none⟩ = some (.slice p1 p2 p3) := XB.cell 0 rfl
        have e1 : w3.cell? ⟨wr.heap.size, 1, none⟩ = some (.int .i64 (f : Int)) := XB.cell 1 rfl
        have e2 : w3.cell? ⟨w.heap.size + 2, 0, none⟩ = some (.slice ta tn tz) := X2'.cell 0 rfl
        have i1 : (0 : Int) ≤ (f : Int) := by omega
        have i2 : (f : Int) ≤ (p3 : Int) := by omega
        clear CE AT
        cases hq : decide (T.take f = X.T) with
        | false =>
          rw [hq] at CQ
          have HR8 : Hid (RS = (8, noVw)) := by
            show _ = _
            rw [← HJ.out, HDR.out]
            show (if _ then _ else if _ then _ else _) = _
            rw [if_neg (by simp [HCN.out]), if_neg (by simpa using hq)]
          go_upto_region 8 with fail
          go_quiet (first | (go_at_call 37; exact Calls.quiet_of (CQ _)))
          have Y1 := X1'.below (below_drewN (Below.refl _ _) nq)
          have hlr : (loadVar 48 ⟨w.heap.size + 1, 0, none⟩).run Tryz.prog ((w3.drewN nq).setRow (w.heap.size + 1) noV) = .ok (.agg noV) ((w3.drewN nq).setRow (w.heap.size + 1) noV) := load_v (Y1.row _) rfl
          have BF := below_setRow (below_drewN DB nq) (by omega : w.heap.size ≤ w.heap.size + 1) noV
          go_wp2_with (refine wpList_store_row rfl 48 _ _ rfl (w.heap.size + 1) noV rfl rfl 48 _ Y1 (by exact Tryz.infoV) rfl (by simp [noV, Value.oneCell']) ?_)
          refine bodyPost_ret (results_cBt (by rfl) _ _ _ _ rfl hlr) rfl ?_
          refine ⟨⟨⟨none, 0, 0⟩, ⟨none, 0, 0⟩, ⟨none, 0, 0⟩⟩, by rw [HR8.out]; rfl, fun w9 _ => ?_, BF⟩
          rw [HR8.out]
          exact noVw_at w9
        | true =>
          rw [hq] at CQ
          have hTT : T.take f = X.T := by simpa using hq
          have HJ2 : Hid (jnS Vo D L ⟨T, catC X.K K, catC X.V V⟩ (l.drop (k + 1)) = RS) := by
            show _ = _
            rw [← HJ.out, HDR.out]
            show _ = (if _ then _ else if _ then _ else _)
            rw [if_neg (by simp [HCN.out]), if_pos (by simpa using hq)]
          obtain ⟨l1, l2, l3, l4⟩ := HLEN0.out
          have hXT : X.T.length = f := by rw [← hTT, List.length_take]; omega
          have hKr : ∀ t, t < LN → (K.getD t []).length = T.length - f := fun t ht => by
            have hg : K[t]? = some (K[t]'(by omega)) := List.getElem?_eq_getElem _
            have := (sp5 _ (List.getElem_mem (by omega : t < K.length))).1
            rw [List.getD_eq_getElem?_getD, hg]
            show (K[t]'(by omega)).length = _
            omega
          have hVr : ∀ t, t < LN → (V.getD t []).length = T.length - f := fun t ht => by
            have hg : V[t]? = some (V[t]'(by omega)) := List.getElem?_eq_getElem _
            have := (sp6 _ (List.getElem_mem (by omega : t < V.length))).1
            rw [List.getD_eq_getElem?_getD, hg]
            show (V[t]'(by omega)).length = _
            omega
          have HLEN : Hid ((catC X.K K).length = LN ∧ (catC X.V V).length = LN ∧ T.length ≤ 128 ∧ ∀ t, t < LN → ((catC X.K K).getD t []).length = T.length ∧ ((catC X.V V).getD t []).length = T.length) := by
            refine ⟨by rw [catC_len]; exact hLK, by rw [catC_len]; exact hLV, j2, fun t ht => ⟨?_, ?_⟩⟩
            · rw [catC_at (by omega), List.length_append, (l4 t ht).1, hKr t ht]; omega
            · rw [catC_at (by omega), List.length_append, (l4 t ht).2, hVr t ht]; omega
          have hrowK : ∀ R ∈ K, ∀ t, t < R.length → (rowOf R t).length ≤ 1048576 := fun R hR t ht => hB2 R hR _ (rowOf_mem ht)
          have hrowV : ∀ R ∈ V, ∀ t, t < R.length → (rowOf R t).length ≤ 1048576 := fun R hR t ht => hB3 R hR _ (rowOf_mem ht)
          have HCK : Hid (∀ wv, GLV wv w.heap.size Sk pk LN ka kn kz (fun t => X.K.getD t []) → Below w.heap.size w wv → Calls Tryz.prog 39 #[.slice ka kn kz, .slice p4 LN p6] wv fun e w' => ∃ g, e = .returned (.slice (some ⟨g, 0, none⟩) LN LN) ∧ ∃ S' p', GL w' w.heap.size S' p' g LN (fun t => X.K.getD t [] ++ K.getD t []) ∧ (∀ b, S' b → Sk b ∨ wv.heap.size ≤ b) ∧ (∀ b, p' b → pk b ∨ wv.heap.size ≤ b) ∧ (∀ b, b < wv.heap.size → ¬ Sk b → w'.heap[b]? = wv.heap[b]?) ∧ Below w.heap.size wv w') := fun wv hG hb => behind_v w LN Sk pk _ ka kn kz p4 p6 K wv hG (HPA.out w (Below.refl _ _)).k hb hL2 hrowK (fun t ht => by rw [(l4 t ht).1, hKr t ht]; omega)
          have HCV : Hid (∀ wv, GLV wv w.heap.size Sv pv LN va vn vz (fun t => X.V.getD t []) → Below w.heap.size w wv → Calls Tryz.prog 39 #[.slice va vn vz, .slice p7 LN p9] wv fun e w' => ∃ g, e = .returned (.slice (some ⟨g, 0, none⟩) LN LN) ∧ ∃ S' p', GL w' w.heap.size S' p' g LN (fun t => X.V.getD t [] ++ V.getD t []) ∧ (∀ b, S' b → Sv b ∨ wv.heap.size ≤ b) ∧ (∀ b, p' b → pv b ∨ wv.heap.size ≤ b) ∧ (∀ b, b < wv.heap.size → ¬ Sv b → w'.heap[b]? = wv.heap[b]?) ∧ Below w.heap.size wv w') := fun wv hG hb => behind_v w LN Sv pv _ va vn vz p7 p9 V wv hG (HPA.out w (Below.refl _ _)).v hb hL2 hrowV (fun t ht => by rw [(l4 t ht).2, hVr t ht]; omega)
          have CT := fun (wv : World) (hb : Below w.heap.size w wv) => iclone_any p1 p2 p3 T wv (HPA.out wv hb).t (by omega)
          have HSM : Hid (∀ t, -9223372036854775808 ≤ el T t ∧ el T t ≤ 9223372036854775807) := (HPA.out w (Below.refl _ _)).t.row.small
          clear hB2 hB3 hrowK hrowV hKr hVr sp5 sp6 l1 l2 l3 l4 h1 h2 h3 h4 h5 h6 hTT hq HA1
          go_upto_region 8 with fail
          go_quiet (first | (go_at_call 37; exact Calls.quiet_of (CQ _)))
          clear CQ e0 e1 e2
          have BQ : Below w3.heap.size w3 (w3.drewN nq) := below_drewN (Below.refl _ _) nq
          have B3q := below_then B3r BQ
          have DQ := below_then DB BQ
          replace X2 := X2'.below BQ
          replace X1 := X1'.below BQ
          replace XC := XC'.below BQ
          replace XB := XB.below BQ
          generalize w3.drewN nq = wq at *
          clear X2' X1' XC' BQ B3 B3r DB BR BZ
          have CT2 := CT wq DQ
          have e0 : wq.cell? ⟨wr.heap.size, 0, none⟩ = some (.slice p1 p2 p3) := XB.cell 0 rfl
          clear CT
          go_wp2_with fail
          refine CT2.mono ?_
          clear CT2
          rintro e w4 ⟨tv, rfl, O4, B4⟩
          obtain ⟨ta2, tz2, rfl, _⟩ := IOwn.arg O4 HSM.out
          have sq4 := B4.size
          have DQ4 := DQ.trans (B4.mono DQ.size)
          have B34 := B3q.trans (B4.mono B3q.size)
          have X24 := X2.below B4
          have fz := X24.frozen 0
          have c0 : w4.cell? ⟨w.heap.size + 2, 0, none⟩ = some (.slice ta tn tz) := X24.cell 0 rfl
          have X25 := X24.set 0 (.slice ta2 p2 tz2)
          have oth : ∀ b, b ≠ w.heap.size + 2 → (w4.setCell ⟨w.heap.size + 2, 0, none⟩ (.slice ta2 p2 tz2)).heap[b]? = w4.heap[b]? := fun b hb => Below.heap_setCell _ _ _ b hb
          have sz5 : (w4.setCell ⟨w.heap.size + 2, 0, none⟩ (.slice ta2 p2 tz2)).heap.size = w4.heap.size := by simp [World.setCell]
          have DW5 : Below w.heap.size w (w4.setCell ⟨w.heap.size + 2, 0, none⟩ (.slice ta2 p2 tz2)) := Below.setCell (p := ⟨w.heap.size + 2, 0, none⟩) DQ4 (by show w.heap.size ≤ w.heap.size + 2; omega) _
          have XC5 := (XC.below B4).of_block (oth _ (by omega))
          have X15 := (X1.below B4).of_block (oth _ (by omega))
          have XB5 := (XB.below B4).of_block (oth _ (by omega))
          have sr4 := B34.size
          have KG5 : GLV (w4.setCell ⟨w.heap.size + 2, 0, none⟩ (.slice ta2 p2 tz2)) w.heap.size Sk pk LN ka kn kz (fun t => X.K.getD t []) := (HK.out.below B34).other (by omega) (fun b hb => oth b (fun hc => by have := HSK.out b (by rcases hb with h | h; exact Or.inl h; exact Or.inr (Or.inl h)); omega))
          have VG5 : GLV (w4.setCell ⟨w.heap.size + 2, 0, none⟩ (.slice ta2 p2 tz2)) w.heap.size Sv pv LN va vn vz (fun t => X.V.getD t []) := (HV.out.below B34).other (by omega) (fun b hb => oth b (fun hc => by have := HSK.out b (by rcases hb with h | h; exact Or.inr (Or.inr (Or.inl h)); exact Or.inr (Or.inr (Or.inr h))); omega))
          have sq : wr.heap.size ≤ wq.heap.size := B3q.size
          have HSB : Hid (∀ b, ((Sk b ∨ pk b) ∨ (Sv b ∨ pv b)) → b < wr.heap.size) := fun b hb => by
            rcases hb with hb | hb
            · exact HK.out.lt hb
            · exact HV.out.lt hb
          have HT5 : Hid (∃ pt : Nat → Prop, Hangs pt (w4.setCell ⟨w.heap.size + 2, 0, none⟩ (.slice ta2 p2 tz2)) (fun w => IArg w ta2 p2 tz2 T) ∧ ∀ b, pt b → w.heap.size + 3 ≤ b ∧ b < (w4.setCell ⟨w.heap.size + 2, 0, none⟩ (.slice ta2 p2 tz2)).heap.size ∧ ¬ Sk b ∧ ¬ Sv b) := by
            refine ⟨fun b => wq.heap.size ≤ b ∧ b < w4.heap.size, fun wv hv => ?_, fun b hb => ⟨by omega, by rw [sz5]; exact hb.2, fun hc => ?_, fun hc => ?_⟩⟩
            · have O5 : IOwn wv wq.heap.size (.slice ta2 p2 tz2) p2 T := owns_mono O4 (Nat.le_refl _) (fun b hb => by
                have q := O4.lt b hb
                rw [hv b ⟨q.1, q.2⟩ (by rw [sz5]; exact q.2)]
                exact oth b (by omega))
              obtain ⟨x5, y5, e5, A5⟩ := IOwn.arg O5 HSM.out
              simp only [Value.slice.injEq, true_and] at e5
              obtain ⟨rfl, rfl⟩ := e5
              exact A5
            · have := HSB.out b (Or.inl (Or.inl hc)); omega
            · have := HSB.out b (Or.inr (Or.inl hc)); omega
          have hsz5 : w.heap.size ≤ (w4.setCell ⟨w.heap.size + 2, 0, none⟩ (.slice ta2 p2 tz2)).heap.size := by omega
          have h5r : wr.heap.size ≤ (w4.setCell ⟨w.heap.size + 2, 0, none⟩ (.slice ta2 p2 tz2)).heap.size := by omega
          have HX5 : Hid (Blk (w4.setCell ⟨w.heap.size + 2, 0, none⟩ (.slice ta2 p2 tz2)) w.heap.size 23 (cfgC Vo D Hd H L) ∧ Blk (w4.setCell ⟨w.heap.size + 2, 0, none⟩ (.slice ta2 p2 tz2)) (w.heap.size + 1) 48 noV) := ⟨XC5, X15⟩
          replace X25 : Blk (w4.setCell ⟨w.heap.size + 2, 0, none⟩ (.slice ta2 p2 tz2)) (w.heap.size + 2) 48 #[.slice ta2 p2 tz2, .slice ka kn kz, .slice va vn vz] := X25
          clear X24 XC5 X15 oth DQ4 B34 sz5 O4 B4 XC X1 X2 XB e0 DQ B3q
          go_wp2_with fail
          clear fz c0
          generalize w4.setCell ⟨w.heap.size + 2, 0, none⟩ (.slice ta2 p2 tz2) = w5 at *
          refine wp_region_late (S := fun w' => Blk w' (w.heap.size + 2) 48 #[.slice ta2 p2 tz2, .slice ka kn kz, .slice va vn vz] ∧ Blk w' wr.heap.size 30 #[.slice p1 p2 p3, .int .i64 (f : Int), .slice p4 LN p6, .slice p7 LN p9]) 16 (by kernel_rfl) (⟨X25, XB5⟩) (fun hHeld => ?_)
          have BD : Below w5.heap.size w5 w5.drew := (Below.refl _ w5).drew
          have Y2 := X25.below BD
          have YB := XB5.below BD
          have KG := KG5.below BD
          have VG := VG5.below BD
          have z1 : w5.drew.heap.size ≤ w5.heap.size := Nat.le_refl _
          have z2 : w5.heap.size ≤ w5.drew.heap.size := Nat.le_refl _
          have HD5 : Hid (∀ b, b < w5.heap.size → w5.drew.heap[b]? = w5.heap[b]?) := fun b hb => BD.block b hb
          have DD := DW5.trans (BD.mono hsz5)
          generalize hwd : w5.drew = wd at *
          clear hwd X25 XB5 KG5 VG5 DW5 BD
          refine wpLate_pure (i := 0) (v := (.pointer (some ⟨w.heap.size + 2, 1, none⟩))) rfl (by decide) (by kernel_rfl) (by kernel_rfl) (by kernel_rfl) (fun _ _ _ h => h) (Or.inl ⟨by rfl, ?_⟩) (fun _ => by assumption) ?_
          · intro w' _
            go_simp
          simp only [List.getElem_toArray, List.getElem_cons_zero, Act.put, List.setIfInBounds_toArray, List.set_cons_zero, List.set_cons_succ]
          refine wpLate_pure (i := 1) (v := (.pointer (some ⟨w.heap.size + 2, 1, none⟩))) rfl (by decide) (by kernel_rfl) (by kernel_rfl) (by kernel_rfl) (fun _ _ _ h => h) (Or.inl ⟨by rfl, ?_⟩) (fun _ => by assumption) ?_
          · intro w' _
            go_simp
          simp only [List.getElem_toArray, List.getElem_cons_succ, List.getElem_cons_zero, Act.put, List.setIfInBounds_toArray, List.set_cons_zero, List.set_cons_succ]
          refine wpLate_take (i := 2) (v := (.slice ka kn kz)) rfl (by kernel_rfl) (by kernel_rfl) (by kernel_rfl) (by kernel_rfl) (by kernel_rfl) (fun _ _ _ h => h) (Or.inl ⟨by rfl, ?_⟩) (by assumption) ?_
          · intro w' hSw
            have c0 : w'.cell? ⟨w.heap.size + 2, 1, none⟩ = some (.slice ka kn kz) := hSw.1.cell 1 rfl
            go_simp
          simp only [List.getElem_toArray, List.getElem_cons_succ, List.getElem_cons_zero, Act.put, List.setIfInBounds_toArray, List.set_cons_zero, List.set_cons_succ]
          refine wpLate_pure (i := 3) (v := (.pointer (some ⟨wr.heap.size, 2, none⟩))) rfl (by decide) (by kernel_rfl) (by kernel_rfl) (by kernel_rfl) (fun _ _ _ h => h) (Or.inl ⟨by rfl, ?_⟩) (fun _ => by assumption) ?_
          · intro w' _
            go_simp
          simp only [List.getElem_toArray, List.getElem_cons_succ, List.getElem_cons_zero, Act.put, List.setIfInBounds_toArray, List.set_cons_zero, List.set_cons_succ]
          refine wpLate_pure (i := 4) (v := (.pointer (some ⟨wr.heap.size, 2, none⟩))) rfl (by decide) (by kernel_rfl) (by kernel_rfl) (by kernel_rfl) (fun _ _ _ h => h) (Or.inl ⟨by rfl, ?_⟩) (fun _ => by assumption) ?_
          · intro w' _
            go_simp
          simp only [List.getElem_toArray, List.getElem_cons_succ, List.getElem_cons_zero, Act.put, List.setIfInBounds_toArray, List.set_cons_zero, List.set_cons_succ]
          refine wpLate_take (i := 5) (v := (.slice p4 LN p6)) rfl (by kernel_rfl) (by kernel_rfl) (by kernel_rfl) (by kernel_rfl) (by kernel_rfl) (fun _ _ _ h => h) (Or.inl ⟨by rfl, ?_⟩) (by assumption) ?_
          · intro w' hSw
            have c0 : w'.cell? ⟨wr.heap.size, 2, none⟩ = some (.slice p4 LN p6) := hSw.2.cell 2 rfl
            go_simp
          simp only [List.getElem_toArray, List.getElem_cons_succ, List.getElem_cons_zero, Act.put, List.setIfInBounds_toArray, List.set_cons_zero, List.set_cons_succ]
          refine wpLate_pure (i := 7) (v := (.pointer (some ⟨w.heap.size + 2, 1, none⟩))) rfl (by decide) (by kernel_rfl) (by kernel_rfl) (by kernel_rfl) (fun _ _ _ h => h) (Or.inl ⟨by rfl, ?_⟩) (fun _ => by assumption) ?_
          · intro w' _
            go_simp
          simp only [List.getElem_toArray, List.getElem_cons_succ, List.getElem_cons_zero, Act.put, List.setIfInBounds_toArray, List.set_cons_zero, List.set_cons_succ]
          refine wpLate_pure (i := 8) (v := (.pointer (some ⟨w.heap.size + 2, 2, none⟩))) rfl (by decide) (by kernel_rfl) (by kernel_rfl) (by kernel_rfl) (fun _ _ _ h => h) (Or.inl ⟨by rfl, ?_⟩) (fun _ => by assumption) ?_
          · intro w' _
            go_simp
          simp only [List.getElem_toArray, List.getElem_cons_succ, List.getElem_cons_zero, Act.put, List.setIfInBounds_toArray, List.set_cons_zero, List.set_cons_succ]
          refine wpLate_take (i := 9) (v := (.slice va vn vz)) rfl (by kernel_rfl) (by kernel_rfl) (by kernel_rfl) (by kernel_rfl) (by kernel_rfl) (fun _ _ _ h => h) (Or.inl ⟨by rfl, ?_⟩) (by assumption) ?_
          · intro w' hSw
            have c0 : w'.cell? ⟨w.heap.size + 2, 2, none⟩ = some (.slice va vn vz) := hSw.1.cell 2 rfl
            go_simp
          simp only [List.getElem_toArray, List.getElem_cons_succ, List.getElem_cons_zero, Act.put, List.setIfInBounds_toArray, List.set_cons_zero, List.set_cons_succ]
          refine wpLate_pure (i := 10) (v := (.pointer (some ⟨wr.heap.size, 2, none⟩))) rfl (by decide) (by kernel_rfl) (by kernel_rfl) (by kernel_rfl) (fun _ _ _ h => h) (Or.inl ⟨by rfl, ?_⟩) (fun _ => by assumption) ?_
          · intro w' _
            go_simp
          simp only [List.getElem_toArray, List.getElem_cons_succ, List.getElem_cons_zero, Act.put, List.setIfInBounds_toArray, List.set_cons_zero, List.set_cons_succ]
          refine wpLate_pure (i := 11) (v := (.pointer (some ⟨wr.heap.size, 3, none⟩))) rfl (by decide) (by kernel_rfl) (by kernel_rfl) (by kernel_rfl) (fun _ _ _ h => h) (Or.inl ⟨by rfl, ?_⟩) (fun _ => by assumption) ?_
          · intro w' _
            go_simp
          simp only [List.getElem_toArray, List.getElem_cons_succ, List.getElem_cons_zero, Act.put, List.setIfInBounds_toArray, List.set_cons_zero, List.set_cons_succ]
          refine wpLate_ready (rs := [6, 12]) (by kernel_rfl) (by simp) ?_
          refine wpLate_cons rfl (fun Kc hKc => ?_) (wpLate_cons rfl (fun Kc hKc => ?_) wpLate_nil)
          · simp only [List.getElem_toArray, List.getElem_cons_succ, List.getElem_cons_zero]
            rw [if_pos (by rfl)]
            go_wp2_with fail
            refine (HCK.out wd KG DD).mono ?_
            rintro e w6 ⟨gk, rfl, Sk', pk', KG6, a1, a2, a3, B6⟩
            have s6 := B6.size
            have Y2' : Blk w6 (w.heap.size + 2) 48 #[.slice ta2 p2 tz2, .slice ka kn kz, .slice va vn vz] := Y2.of_block (a3 _ Y2.lt (fun hc => by have := HSK.out _ (Or.inl hc); omega))
            have YB' : Blk w6 wr.heap.size 30 #[.slice p1 p2 p3, .int .i64 (f : Int), .slice p4 LN p6, .slice p7 LN p9] := YB.of_block (a3 _ YB.lt (fun hc => absurd (HSB.out wr.heap.size (Or.inl (Or.inl hc))) (Nat.lt_irrefl _)))
            have VG6 := VG.other s6 (fun b hb => a3 b (VG.lt hb) ((HDJ.out b).2 hb))
            have D6 := DD.trans B6
            have hH6 := And.intro Y2' YB'
            go_wp2_with fail
            refine hKc.out _ _ (fun _ _ => hH6) ?_
            clear hKc Kc
            refine wpLate_pure (i := 14) (v := (.pointer (some ⟨w.heap.size + 2, 1, none⟩))) rfl (by decide) (by kernel_rfl) (by kernel_rfl) (by kernel_rfl) (fun _ _ _ h => h) (Or.inl ⟨by rfl, ?_⟩) (fun _ => hH6) ?_
            · intro w' _
              go_simp
            simp only [List.getElem_toArray, List.getElem_cons_succ, List.getElem_cons_zero, Act.put, List.setIfInBounds_toArray, List.set_cons_zero, List.set_cons_succ]
            refine wpLate_pure (i := 15) (v := (.pointer (some ⟨w.heap.size + 2, 1, none⟩))) rfl (by decide) (by kernel_rfl) (by kernel_rfl) (by kernel_rfl) (fun _ _ _ h => h) (Or.inl ⟨by rfl, ?_⟩) (fun _ => hH6) ?_
            · intro w' _
              go_simp
            simp only [List.getElem_toArray, List.getElem_cons_succ, List.getElem_cons_zero, Act.put, List.setIfInBounds_toArray, List.set_cons_zero, List.set_cons_succ]
            refine wpLate_ready (rs := [12]) (by kernel_rfl) (by simp) ?_
            refine wpLate_cons rfl (fun Kc hKc => ?_) wpLate_nil
            simp only [List.getElem_toArray, List.getElem_cons_succ, List.getElem_cons_zero]
            rw [if_pos (by rfl)]
            have c12 : w6.cell? ⟨wr.heap.size, 3, none⟩ = some (.slice p7 LN p9) := YB'.cell 3 rfl
            go_wp2_with fail
            refine hKc.out _ _ (fun _ _ => hH6) ?_
            clear hKc Kc
            refine wpLate_ready (rs := [13]) (by kernel_rfl) (by simp) ?_
            refine wpLate_cons rfl (fun Kc hKc => ?_) wpLate_nil
            simp only [List.getElem_toArray, List.getElem_cons_succ, List.getElem_cons_zero]
            rw [if_pos (by rfl)]
            go_wp2_with fail
            refine (HCV.out _ VG6 D6).mono ?_
            rintro e w7 ⟨gv, rfl, Sv', pv', VG7, b1, b2, b3, B7⟩
            have s7 := B7.size
            have Y2'' : Blk w7 (w.heap.size + 2) 48 #[.slice ta2 p2 tz2, .slice ka kn kz, .slice va vn vz] := Y2'.of_block (b3 _ Y2'.lt (fun hc => by have := HSK.out _ (Or.inr (Or.inr (Or.inl hc))); omega))
            have HKS : Hid (∀ b, Sk' b ∨ pk' b → b < w6.heap.size ∧ ¬ Sv b) := fun b hb => by
              have q : b < w6.heap.size := by
                rcases hb with hb | hb
                · exact (KG6.sS b hb).2
                · exact (KG6.sp b hb).2.1
              refine ⟨q, fun hc => ?_⟩
              have hv := VG.lt (Or.inl hc)
              rcases hb with hb | hb
              · rcases a1 b hb with x | x
                · exact (HDJ.out b).1 (Or.inl x) hc
                · omega
              · rcases a2 b hb with x | x
                · exact (HDJ.out b).1 (Or.inr x) hc
                · omega
            have KG7 := KG6.other s7 (fun b hb => b3 b (HKS.out b hb).1 (HKS.out b hb).2)
            have HDJ2 : Hid (∀ b, ((Sk' b ∨ pk' b) → ¬ Sv' b) ∧ ((Sv' b ∨ pv' b) → ¬ Sk' b)) := fun b => by
              refine ⟨fun hb hc => ?_, fun hb hc => ?_⟩
              · rcases b1 b hc with x | x
                · exact (HKS.out b hb).2 x
                · have := (HKS.out b hb).1; omega
              · have hk := (HKS.out b (Or.inl hc)).1
                have hx : Sv b ∨ pv b := by
                  rcases hb with hb | hb
                  · rcases b1 b hb with x | x
                    · exact Or.inl x
                    · omega
                  · rcases b2 b hb with x | x
                    · exact Or.inr x
                    · omega
                have hv := VG.lt hx
                rcases a1 b hc with x | x
                · exact (HDJ.out b).2 hx x
                · omega
            have HSK2 : Hid (∀ b, Sk' b ∨ pk' b ∨ Sv' b ∨ pv' b → w.heap.size + 3 ≤ b) := fun b hb => by
              rcases hb with hb | hb | hb | hb
              · rcases a1 b hb with x | x
                · exact HSK.out b (Or.inl x)
                · omega
              · rcases a2 b hb with x | x
                · exact HSK.out b (Or.inr (Or.inl x))
                · omega
              · rcases b1 b hb with x | x
                · exact HSK.out b (Or.inr (Or.inr (Or.inl x)))
                · omega
              · rcases b2 b hb with x | x
                · exact HSK.out b (Or.inr (Or.inr (Or.inr x)))
                · omega
            have HT7 : Hid (∃ pt : Nat → Prop, Hangs pt w7 (fun w => IArg w ta2 p2 tz2 T) ∧ ∀ b, pt b → w.heap.size + 3 ≤ b ∧ b < w7.heap.size ∧ ¬ Sk' b ∧ ¬ Sv' b) := by
              obtain ⟨pt, N, hpt⟩ := HT5.out
              refine ⟨pt, N.turn ⟨by omega, fun b hb hp => ⟨hp, ?_⟩⟩, fun b hp => ?_⟩
              · obtain ⟨q1, q2, q3, q4⟩ := hpt b hp
                rw [b3 b (by omega) q4, a3 b (by omega) q3]
                exact HD5.out b hb
              · obtain ⟨q1, q2, q3, q4⟩ := hpt b hp
                refine ⟨q1, by omega, fun hc => ?_, fun hc => ?_⟩
                · rcases a1 b hc with x | x
                  · exact q3 x
                  · omega
                · rcases b1 b hc with x | x
                  · exact q4 x
                  · omega
            have D7 := D6.trans B7
            have XC7 : Blk w7 w.heap.size 23 (cfgC Vo D Hd H L) := (HX5.out.1).of_block (by rw [b3 _ (by have := HX5.out.1.lt; omega) (fun hc => by have := HSK.out _ (Or.inr (Or.inr (Or.inl hc))); omega), a3 _ (by have := HX5.out.1.lt; omega) (fun hc => by have := HSK.out _ (Or.inl hc); omega)]; exact HD5.out _ HX5.out.1.lt)
            have XR7 : Blk w7 (w.heap.size + 1) 48 noV := (HX5.out.2).of_block (by rw [b3 _ (by have := HX5.out.2.lt; omega) (fun hc => by have := HSK.out _ (Or.inr (Or.inr (Or.inl hc))); omega), a3 _ (by have := HX5.out.2.lt; omega) (fun hc => by have := HSK.out _ (Or.inl hc); omega)]; exact HD5.out _ HX5.out.2.lt)
            have fz := Y2''.frozen 1
            have c1 : w7.cell? ⟨w.heap.size + 2, 1, none⟩ = some (.slice ka kn kz) := Y2''.cell 1 rfl
            go_wp2_with fail
            have hS7 : Blk w7 (w.heap.size + 2) 48 #[.slice ta2 p2 tz2, .slice ka kn kz, .slice va vn vz] ∧ Blk w7 wr.heap.size 30 #[.slice p1 p2 p3, .int .i64 (f : Int), .slice p4 LN p6, .slice p7 LN p9] := ⟨Y2'', YB'.of_block (b3 _ YB'.lt (fun hc => absurd (HSB.out wr.heap.size (Or.inr (Or.inl hc))) (Nat.lt_irrefl _)))⟩
            refine hKc.out _ _ (fun _ _ => hS7) ?_
            clear hKc Kc
            refine wpLate_ready (rs := [16]) (by kernel_rfl) (by simp) ?_
            refine wpLate_cons rfl (fun Kc hKc => ?_) wpLate_nil
            simp only [List.getElem_toArray, List.getElem_cons_succ, List.getElem_cons_zero]
            rw [if_pos (by rfl)]
            go_wp2_with fail
            refine hKc.out _ _ (fun hne _ => absurd rfl hne) ?_
            clear hKc Kc
            try simp only [Act.put]
            have Y8 := Y2''.set 1 (.slice (some ⟨gk, 0, none⟩) LN LN)
            have fz8 := Y8.frozen 2
            have c8 : (w7.setCell ⟨w.heap.size + 2, 1, none⟩ (.slice (some ⟨gk, 0, none⟩) LN LN)).cell? ⟨w.heap.size + 2, 2, none⟩ = some (.slice va vn vz) := Y8.cell 2 rfl
            refine wpLate_pure (i := 17) (v := (.pointer (some ⟨w.heap.size + 2, 1, none⟩))) rfl (by decide) (by kernel_rfl) (by kernel_rfl) (by kernel_rfl) (fun _ _ _ h => h) (Or.inl ⟨by rfl, ?_⟩) (fun h => absurd h (by decide)) ?_
            · intro w' _
              go_simp
            simp only [List.getElem_toArray, List.getElem_cons_succ, List.getElem_cons_zero, Act.put, List.setIfInBounds_toArray, List.set_cons_zero, List.set_cons_succ]
            refine wpLate_pure (i := 18) (v := (.pointer (some ⟨w.heap.size + 2, 2, none⟩))) rfl (by decide) (by kernel_rfl) (by kernel_rfl) (by kernel_rfl) (fun _ _ _ h => h) (Or.inl ⟨by rfl, ?_⟩) (fun h => absurd h (by decide)) ?_
            · intro w' _
              go_simp
            simp only [List.getElem_toArray, List.getElem_cons_succ, List.getElem_cons_zero, Act.put, List.setIfInBounds_toArray, List.set_cons_zero, List.set_cons_succ]
            refine wpLate_ready (rs := [19]) (by kernel_rfl) (by simp) ?_
            refine wpLate_cons rfl (fun Kc hKc => ?_) wpLate_nil
            simp only [List.getElem_toArray, List.getElem_cons_succ, List.getElem_cons_zero]
            rw [if_pos (by rfl)]
            go_wp2_with fail
            refine hKc.out _ _ (fun _ h => absurd h (by decide)) ?_
            clear hKc Kc
            try simp only [Act.put]
            have Y9 := Y8.set 2 (.slice (some ⟨gv, 0, none⟩) LN LN)
            have oth : ∀ b, b ≠ w.heap.size + 2 → ((w7.setCell ⟨w.heap.size + 2, 1, none⟩ (.slice (some ⟨gk, 0, none⟩) LN LN)).setCell ⟨w.heap.size + 2, 2, none⟩ (.slice (some ⟨gv, 0, none⟩) LN LN)).heap[b]? = w7.heap[b]? := fun b hb => by rw [Below.heap_setCell _ _ _ b hb, Below.heap_setCell _ _ _ b hb]
            have s9 : ((w7.setCell ⟨w.heap.size + 2, 1, none⟩ (.slice (some ⟨gk, 0, none⟩) LN LN)).setCell ⟨w.heap.size + 2, 2, none⟩ (.slice (some ⟨gv, 0, none⟩) LN LN)).heap.size = w7.heap.size := by simp [World.setCell]
            have B9 : Below w.heap.size w ((w7.setCell ⟨w.heap.size + 2, 1, none⟩ (.slice (some ⟨gk, 0, none⟩) LN LN)).setCell ⟨w.heap.size + 2, 2, none⟩ (.slice (some ⟨gv, 0, none⟩) LN LN)) := Below.setCell (p := ⟨w.heap.size + 2, 2, none⟩) (Below.setCell (p := ⟨w.heap.size + 2, 1, none⟩) D7 (by show w.heap.size ≤ w.heap.size + 2; omega) _) (by show w.heap.size ≤ w.heap.size + 2; omega) _
            have XC9 := XC7.of_block (oth _ (by omega))
            have XR9 := XR7.of_block (oth _ (by omega))
            have KG9 : GLV ((w7.setCell ⟨w.heap.size + 2, 1, none⟩ (.slice (some ⟨gk, 0, none⟩) LN LN)).setCell ⟨w.heap.size + 2, 2, none⟩ (.slice (some ⟨gv, 0, none⟩) LN LN)) w.heap.size Sk' pk' LN (some ⟨gk, 0, none⟩) LN LN (fun t => X.K.getD t [] ++ K.getD t []) := Or.inr ⟨gk, rfl, rfl, rfl, KG7.other (by omega) (fun b hb => oth b (fun hc => by have := HSK2.out b (by rcases hb with h | h; exact Or.inl h; exact Or.inr (Or.inl h)); omega))⟩
            have VG9 : GLV ((w7.setCell ⟨w.heap.size + 2, 1, none⟩ (.slice (some ⟨gk, 0, none⟩) LN LN)).setCell ⟨w.heap.size + 2, 2, none⟩ (.slice (some ⟨gv, 0, none⟩) LN LN)) w.heap.size Sv' pv' LN (some ⟨gv, 0, none⟩) LN LN (fun t => X.V.getD t [] ++ V.getD t []) := Or.inr ⟨gv, rfl, rfl, rfl, VG7.other (by omega) (fun b hb => oth b (fun hc => by have := HSK2.out b (by rcases hb with h | h; exact Or.inr (Or.inr (Or.inl h)); exact Or.inr (Or.inr (Or.inr h))); omega))⟩
            have HT9 : ∃ pt : Nat → Prop, Hangs pt ((w7.setCell ⟨w.heap.size + 2, 1, none⟩ (.slice (some ⟨gk, 0, none⟩) LN LN)).setCell ⟨w.heap.size + 2, 2, none⟩ (.slice (some ⟨gv, 0, none⟩) LN LN)) (fun w => IArg w ta2 p2 tz2 T) ∧ ∀ b, pt b → w.heap.size + 3 ≤ b ∧ b < ((w7.setCell ⟨w.heap.size + 2, 1, none⟩ (.slice (some ⟨gk, 0, none⟩) LN LN)).setCell ⟨w.heap.size + 2, 2, none⟩ (.slice (some ⟨gv, 0, none⟩) LN LN)).heap.size ∧ ¬ Sk' b ∧ ¬ Sv' b := by
              obtain ⟨pt, N, hpt⟩ := HT7.out
              exact ⟨pt, N.turn ⟨by omega, fun b hb hp => ⟨hp, oth b (fun hc => by have := (hpt b hp).1; omega)⟩⟩, fun b hp => ⟨(hpt b hp).1, by rw [s9]; exact (hpt b hp).2.1, (hpt b hp).2.2⟩⟩
            have X29 : Blk ((w7.setCell ⟨w.heap.size + 2, 1, none⟩ (.slice (some ⟨gk, 0, none⟩) LN LN)).setCell ⟨w.heap.size + 2, 2, none⟩ (.slice (some ⟨gv, 0, none⟩) LN LN)) (w.heap.size + 2) 48 #[.slice ta2 p2 tz2, .slice (some ⟨gk, 0, none⟩) LN LN, .slice (some ⟨gv, 0, none⟩) LN LN] := Y9
            generalize ((w7.setCell ⟨w.heap.size + 2, 1, none⟩ (.slice (some ⟨gk, 0, none⟩) LN LN)).setCell ⟨w.heap.size + 2, 2, none⟩ (.slice (some ⟨gv, 0, none⟩) LN LN)) = w9 at *
            refine wpLate_done (by kernel_rfl) ?_ _
            go_wp2_with fail
            go_roundg (n - (k + 1))
            case measure => omega
            case rel =>
              refine ⟨k + 1, ⟨T, catC X.K K, catC X.V V⟩, ta2, p2, tz2, _, _, _, _, _, _, Sk', pk', Sv', pv', by omega, rfl, by go_num, HJ2.out, X29, XR9, XC9, HT9, KG9.congr (fun t ht => catC_at (by rw [HLK.out]; exact ht)), VG9.congr (fun t ht => catC_at (by rw [HLV.out]; exact ht)), HDJ2.out, HSK2.out, HLEN.out, B9⟩
          · simp only [List.getElem_toArray, List.getElem_cons_succ, List.getElem_cons_zero]
            rw [if_pos (by rfl)]
            have c12 : wd.cell? ⟨wr.heap.size, 3, none⟩ = some (.slice p7 LN p9) := YB.cell 3 rfl
            go_wp2_with fail
            refine hKc.out _ _ (fun _ _ => And.intro Y2 YB) ?_
            clear hKc Kc
            refine wpLate_ready (rs := [6]) (by kernel_rfl) (by simp) ?_
            refine wpLate_cons rfl (fun Kc hKc => ?_) wpLate_nil
            simp only [List.getElem_toArray, List.getElem_cons_succ, List.getElem_cons_zero]
            rw [if_pos (by rfl)]
            go_wp2_with fail
            refine (HCK.out wd KG DD).mono ?_
            rintro e w6 ⟨gk, rfl, Sk', pk', KG6, a1, a2, a3, B6⟩
            have s6 := B6.size
            have Y2' : Blk w6 (w.heap.size + 2) 48 #[.slice ta2 p2 tz2, .slice ka kn kz, .slice va vn vz] := Y2.of_block (a3 _ Y2.lt (fun hc => by have := HSK.out _ (Or.inl hc); omega))
            have YB' : Blk w6 wr.heap.size 30 #[.slice p1 p2 p3, .int .i64 (f : Int), .slice p4 LN p6, .slice p7 LN p9] := YB.of_block (a3 _ YB.lt (fun hc => absurd (HSB.out wr.heap.size (Or.inl (Or.inl hc))) (Nat.lt_irrefl _)))
            have VG6 := VG.other s6 (fun b hb => a3 b (VG.lt hb) ((HDJ.out b).2 hb))
            have D6 := DD.trans B6
            have hH6 := And.intro Y2' YB'
            go_wp2_with fail
            refine hKc.out _ _ (fun _ _ => hH6) ?_
            clear hKc Kc
            refine wpLate_pure (i := 14) (v := (.pointer (some ⟨w.heap.size + 2, 1, none⟩))) rfl (by decide) (by kernel_rfl) (by kernel_rfl) (by kernel_rfl) (fun _ _ _ h => h) (Or.inl ⟨by rfl, ?_⟩) (fun _ => hH6) ?_
            · intro w' _
              go_simp
            simp only [List.getElem_toArray, List.getElem_cons_succ, List.getElem_cons_zero, Act.put, List.setIfInBounds_toArray, List.set_cons_zero, List.set_cons_succ]
            refine wpLate_pure (i := 15) (v := (.pointer (some ⟨w.heap.size + 2, 1, none⟩))) rfl (by decide) (by kernel_rfl) (by kernel_rfl) (by kernel_rfl) (fun _ _ _ h => h) (Or.inl ⟨by rfl, ?_⟩) (fun _ => hH6) ?_
            · intro w' _
              go_simp
            simp only [List.getElem_toArray, List.getElem_cons_succ, List.getElem_cons_zero, Act.put, List.setIfInBounds_toArray, List.set_cons_zero, List.set_cons_succ]
            refine wpLate_ready (rs := [13]) (by kernel_rfl) (by simp) ?_
            refine wpLate_cons rfl (fun Kc hKc => ?_) wpLate_nil
            simp only [List.getElem_toArray, List.getElem_cons_succ, List.getElem_cons_zero]
            rw [if_pos (by rfl)]
            go_wp2_with fail
            refine (HCV.out _ VG6 D6).mono ?_
            rintro e w7 ⟨gv, rfl, Sv', pv', VG7, b1, b2, b3, B7⟩
            have s7 := B7.size
            have Y2'' : Blk w7 (w.heap.size + 2) 48 #[.slice ta2 p2 tz2, .slice ka kn kz, .slice va vn vz] := Y2'.of_block (b3 _ Y2'.lt (fun hc => by have := HSK.out _ (Or.inr (Or.inr (Or.inl hc))); omega))
            have HKS : Hid (∀ b, Sk' b ∨ pk' b → b < w6.heap.size ∧ ¬ Sv b) := fun b hb => by
              have q : b < w6.heap.size := by
                rcases hb with hb | hb
                · exact (KG6.sS b hb).2
                · exact (KG6.sp b hb).2.1
              refine ⟨q, fun hc => ?_⟩
              have hv := VG.lt (Or.inl hc)
              rcases hb with hb | hb
              · rcases a1 b hb with x | x
                · exact (HDJ.out b).1 (Or.inl x) hc
                · omega
              · rcases a2 b hb with x | x
                · exact (HDJ.out b).1 (Or.inr x) hc
                · omega
            have KG7 := KG6.other s7 (fun b hb => b3 b (HKS.out b hb).1 (HKS.out b hb).2)
            have HDJ2 : Hid (∀ b, ((Sk' b ∨ pk' b) → ¬ Sv' b) ∧ ((Sv' b ∨ pv' b) → ¬ Sk' b)) := fun b => by
              refine ⟨fun hb hc => ?_, fun hb hc => ?_⟩
              · rcases b1 b hc with x | x
                · exact (HKS.out b hb).2 x
                · have := (HKS.out b hb).1; omega
              · have hk := (HKS.out b (Or.inl hc)).1
                have hx : Sv b ∨ pv b := by
                  rcases hb with hb | hb
                  · rcases b1 b hb with x | x
                    · exact Or.inl x
                    · omega
                  · rcases b2 b hb with x | x
                    · exact Or.inr x
                    · omega
                have hv := VG.lt hx
                rcases a1 b hc with x | x
                · exact (HDJ.out b).2 hx x
                · omega
            have HSK2 : Hid (∀ b, Sk' b ∨ pk' b ∨ Sv' b ∨ pv' b → w.heap.size + 3 ≤ b) := fun b hb => by
              rcases hb with hb | hb | hb | hb
              · rcases a1 b hb with x | x
                · exact HSK.out b (Or.inl x)
                · omega
              · rcases a2 b hb with x | x
                · exact HSK.out b (Or.inr (Or.inl x))
                · omega
              · rcases b1 b hb with x | x
                · exact HSK.out b (Or.inr (Or.inr (Or.inl x)))
                · omega
              · rcases b2 b hb with x | x
                · exact HSK.out b (Or.inr (Or.inr (Or.inr x)))
                · omega
            have HT7 : Hid (∃ pt : Nat → Prop, Hangs pt w7 (fun w => IArg w ta2 p2 tz2 T) ∧ ∀ b, pt b → w.heap.size + 3 ≤ b ∧ b < w7.heap.size ∧ ¬ Sk' b ∧ ¬ Sv' b) := by
              obtain ⟨pt, N, hpt⟩ := HT5.out
              refine ⟨pt, N.turn ⟨by omega, fun b hb hp => ⟨hp, ?_⟩⟩, fun b hp => ?_⟩
              · obtain ⟨q1, q2, q3, q4⟩ := hpt b hp
                rw [b3 b (by omega) q4, a3 b (by omega) q3]
                exact HD5.out b hb
              · obtain ⟨q1, q2, q3, q4⟩ := hpt b hp
                refine ⟨q1, by omega, fun hc => ?_, fun hc => ?_⟩
                · rcases a1 b hc with x | x
                  · exact q3 x
                  · omega
                · rcases b1 b hc with x | x
                  · exact q4 x
                  · omega
            have D7 := D6.trans B7
            have XC7 : Blk w7 w.heap.size 23 (cfgC Vo D Hd H L) := (HX5.out.1).of_block (by rw [b3 _ (by have := HX5.out.1.lt; omega) (fun hc => by have := HSK.out _ (Or.inr (Or.inr (Or.inl hc))); omega), a3 _ (by have := HX5.out.1.lt; omega) (fun hc => by have := HSK.out _ (Or.inl hc); omega)]; exact HD5.out _ HX5.out.1.lt)
            have XR7 : Blk w7 (w.heap.size + 1) 48 noV := (HX5.out.2).of_block (by rw [b3 _ (by have := HX5.out.2.lt; omega) (fun hc => by have := HSK.out _ (Or.inr (Or.inr (Or.inl hc))); omega), a3 _ (by have := HX5.out.2.lt; omega) (fun hc => by have := HSK.out _ (Or.inl hc); omega)]; exact HD5.out _ HX5.out.2.lt)
            have fz := Y2''.frozen 1
            have c1 : w7.cell? ⟨w.heap.size + 2, 1, none⟩ = some (.slice ka kn kz) := Y2''.cell 1 rfl
            go_wp2_with fail
            have hS7 : Blk w7 (w.heap.size + 2) 48 #[.slice ta2 p2 tz2, .slice ka kn kz, .slice va vn vz] ∧ Blk w7 wr.heap.size 30 #[.slice p1 p2 p3, .int .i64 (f : Int), .slice p4 LN p6, .slice p7 LN p9] := ⟨Y2'', YB'.of_block (b3 _ YB'.lt (fun hc => absurd (HSB.out wr.heap.size (Or.inr (Or.inl hc))) (Nat.lt_irrefl _)))⟩
            refine hKc.out _ _ (fun _ _ => hS7) ?_
            clear hKc Kc
            refine wpLate_ready (rs := [16]) (by kernel_rfl) (by simp) ?_
            refine wpLate_cons rfl (fun Kc hKc => ?_) wpLate_nil
            simp only [List.getElem_toArray, List.getElem_cons_succ, List.getElem_cons_zero]
            rw [if_pos (by rfl)]
            go_wp2_with fail
            refine hKc.out _ _ (fun hne _ => absurd rfl hne) ?_
            clear hKc Kc
            try simp only [Act.put]
            have Y8 := Y2''.set 1 (.slice (some ⟨gk, 0, none⟩) LN LN)
            have fz8 := Y8.frozen 2
            have c8 : (w7.setCell ⟨w.heap.size + 2, 1, none⟩ (.slice (some ⟨gk, 0, none⟩) LN LN)).cell? ⟨w.heap.size + 2, 2, none⟩ = some (.slice va vn vz) := Y8.cell 2 rfl
            refine wpLate_pure (i := 17) (v := (.pointer (some ⟨w.heap.size + 2, 1, none⟩))) rfl (by decide) (by kernel_rfl) (by kernel_rfl) (by kernel_rfl) (fun _ _ _ h => h) (Or.inl ⟨by rfl, ?_⟩) (fun h => absurd h (by decide)) ?_
            · intro w' _
              go_simp
            simp only [List.getElem_toArray, List.getElem_cons_succ, List.getElem_cons_zero, Act.put, List.setIfInBounds_toArray, List.set_cons_zero, List.set_cons_succ]
            refine wpLate_pure (i := 18) (v := (.pointer (some ⟨w.heap.size + 2, 2, none⟩))) rfl (by decide) (by kernel_rfl) (by kernel_rfl) (by kernel_rfl) (fun _ _ _ h => h) (Or.inl ⟨by rfl, ?_⟩) (fun h => absurd h (by decide)) ?_
            · intro w' _
              go_simp
            simp only [List.getElem_toArray, List.getElem_cons_succ, List.getElem_cons_zero, Act.put, List.setIfInBounds_toArray, List.set_cons_zero, List.set_cons_succ]
            refine wpLate_ready (rs := [19]) (by kernel_rfl) (by simp) ?_
            refine wpLate_cons rfl (fun Kc hKc => ?_) wpLate_nil
            simp only [List.getElem_toArray, List.getElem_cons_succ, List.getElem_cons_zero]
            rw [if_pos (by rfl)]
            go_wp2_with fail
            refine hKc.out _ _ (fun _ h => absurd h (by decide)) ?_
            clear hKc Kc
            try simp only [Act.put]
            have Y9 := Y8.set 2 (.slice (some ⟨gv, 0, none⟩) LN LN)
            have oth : ∀ b, b ≠ w.heap.size + 2 → ((w7.setCell ⟨w.heap.size + 2, 1, none⟩ (.slice (some ⟨gk, 0, none⟩) LN LN)).setCell ⟨w.heap.size + 2, 2, none⟩ (.slice (some ⟨gv, 0, none⟩) LN LN)).heap[b]? = w7.heap[b]? := fun b hb => by rw [Below.heap_setCell _ _ _ b hb, Below.heap_setCell _ _ _ b hb]
            have s9 : ((w7.setCell ⟨w.heap.size + 2, 1, none⟩ (.slice (some ⟨gk, 0, none⟩) LN LN)).setCell ⟨w.heap.size + 2, 2, none⟩ (.slice (some ⟨gv, 0, none⟩) LN LN)).heap.size = w7.heap.size := by simp [World.setCell]
            have B9 : Below w.heap.size w ((w7.setCell ⟨w.heap.size + 2, 1, none⟩ (.slice (some ⟨gk, 0, none⟩) LN LN)).setCell ⟨w.heap.size + 2, 2, none⟩ (.slice (some ⟨gv, 0, none⟩) LN LN)) := Below.setCell (p := ⟨w.heap.size + 2, 2, none⟩) (Below.setCell (p := ⟨w.heap.size + 2, 1, none⟩) D7 (by show w.heap.size ≤ w.heap.size + 2; omega) _) (by show w.heap.size ≤ w.heap.size + 2; omega) _
            have XC9 := XC7.of_block (oth _ (by omega))
            have XR9 := XR7.of_block (oth _ (by omega))
            have KG9 : GLV ((w7.setCell ⟨w.heap.size + 2, 1, none⟩ (.slice (some ⟨gk, 0, none⟩) LN LN)).setCell ⟨w.heap.size + 2, 2, none⟩ (.slice (some ⟨gv, 0, none⟩) LN LN)) w.heap.size Sk' pk' LN (some ⟨gk, 0, none⟩) LN LN (fun t => X.K.getD t [] ++ K.getD t []) := Or.inr ⟨gk, rfl, rfl, rfl, KG7.other (by omega) (fun b hb => oth b (fun hc => by have := HSK2.out b (by rcases hb with h | h; exact Or.inl h; exact Or.inr (Or.inl h)); omega))⟩
            have VG9 : GLV ((w7.setCell ⟨w.heap.size + 2, 1, none⟩ (.slice (some ⟨gk, 0, none⟩) LN LN)).setCell ⟨w.heap.size + 2, 2, none⟩ (.slice (some ⟨gv, 0, none⟩) LN LN)) w.heap.size Sv' pv' LN (some ⟨gv, 0, none⟩) LN LN (fun t => X.V.getD t [] ++ V.getD t []) := Or.inr ⟨gv, rfl, rfl, rfl, VG7.other (by omega) (fun b hb => oth b (fun hc => by have := HSK2.out b (by rcases hb with h | h; exact Or.inr (Or.inr (Or.inl h)); exact Or.inr (Or.inr (Or.inr h))); omega))⟩
            have HT9 : ∃ pt : Nat → Prop, Hangs pt ((w7.setCell ⟨w.heap.size + 2, 1, none⟩ (.slice (some ⟨gk, 0, none⟩) LN LN)).setCell ⟨w.heap.size + 2, 2, none⟩ (.slice (some ⟨gv, 0, none⟩) LN LN)) (fun w => IArg w ta2 p2 tz2 T) ∧ ∀ b, pt b → w.heap.size + 3 ≤ b ∧ b < ((w7.setCell ⟨w.heap.size + 2, 1, none⟩ (.slice (some ⟨gk, 0, none⟩) LN LN)).setCell ⟨w.heap.size + 2, 2, none⟩ (.slice (some ⟨gv, 0, none⟩) LN LN)).heap.size ∧ ¬ Sk' b ∧ ¬ Sv' b := by
              obtain ⟨pt, N, hpt⟩ := HT7.out
              exact ⟨pt, N.turn ⟨by omega, fun b hb hp => ⟨hp, oth b (fun hc => by have := (hpt b hp).1; omega)⟩⟩, fun b hp => ⟨(hpt b hp).1, by rw [s9]; exact (hpt b hp).2.1, (hpt b hp).2.2⟩⟩
            have X29 : Blk ((w7.setCell ⟨w.heap.size + 2, 1, none⟩ (.slice (some ⟨gk, 0, none⟩) LN LN)).setCell ⟨w.heap.size + 2, 2, none⟩ (.slice (some ⟨gv, 0, none⟩) LN LN)) (w.heap.size + 2) 48 #[.slice ta2 p2 tz2, .slice (some ⟨gk, 0, none⟩) LN LN, .slice (some ⟨gv, 0, none⟩) LN LN] := Y9
            generalize ((w7.setCell ⟨w.heap.size + 2, 1, none⟩ (.slice (some ⟨gk, 0, none⟩) LN LN)).setCell ⟨w.heap.size + 2, 2, none⟩ (.slice (some ⟨gv, 0, none⟩) LN LN)) = w9 at *
            refine wpLate_done (by kernel_rfl) ?_ _
            go_wp2_with fail
            go_roundg (n - (k + 1))
            case measure => omega
            case rel =>
              refine ⟨k + 1, ⟨T, catC X.K K, catC X.V V⟩, ta2, p2, tz2, _, _, _, _, _, _, Sk', pk', Sv', pv', by omega, rfl, by go_num, HJ2.out, X29, XR9, XC9, HT9, KG9.congr (fun t ht => catC_at (by rw [HLK.out]; exact ht)), VG9.congr (fun t ht => catC_at (by rw [HLV.out]; exact ht)), HDJ2.out, HSK2.out, HLEN.out, B9⟩
      · have HRE : Hid (RS = (cn, noVw)) := by
          show _ = _
          rw [← HJ.out, HDR.out]
          show (if _ then _ else if _ then _ else _) = _
          rw [if_pos (by rw [HCN.out]; exact h0), HCN.out]
        have h0' : (cn == 0) = false := by simpa using h0
        have hlr : (loadVar 48 ⟨w.heap.size + 1, 0, none⟩).run Tryz.prog (w3.setRow (w.heap.size + 1) noV) = .ok (.agg noV) (w3.setRow (w.heap.size + 1) noV) := load_v (X1'.row _) rfl
        have BF := below_setRow DB (by omega : w.heap.size ≤ w.heap.size + 1) noV
        go_wp2_with (refine wpList_store_row rfl 48 _ _ rfl (w.heap.size + 1) noV rfl rfl 48 _ X1' (by exact Tryz.infoV) rfl (by simp [noV, Value.oneCell']) ?_)
        refine bodyPost_ret (results_cBt (by rfl) _ _ _ _ rfl hlr) rfl ?_
        refine ⟨⟨⟨none, 0, 0⟩, ⟨none, 0, 0⟩, ⟨none, 0, 0⟩⟩, by rw [HRE.out]; rfl, fun w9 _ => ?_, BF⟩
        rw [HRE.out]
        exact noVw_at w9
    · obtain rfl : n = k := by omega
      have HRZ : Hid (RS = (0, X)) := by
        show _ = _
        rw [← HJ.out, List.drop_eq_nil_of_le (by rw [HLN.out]; exact Nat.le_refl _)]
        rfl
      have e0 : wr.cell? ⟨w.heap.size + 2, 0, none⟩ = some (.slice ta tn tz) := X2.cell 0 rfl
      have e1 : wr.cell? ⟨w.heap.size + 2, 1, none⟩ = some (.slice ka kn kz) := X2.cell 1 rfl
      have e2 : wr.cell? ⟨w.heap.size + 2, 2, none⟩ = some (.slice va vn vz) := X2.cell 2 rfl
      have hlr : (loadVar 48 ⟨w.heap.size + 1, 0, none⟩).run Tryz.prog (wr.setRow (w.heap.size + 1) #[.slice ta tn tz, .slice ka kn kz, .slice va vn vz]) = .ok (.agg #[.slice ta tn tz, .slice ka kn kz, .slice va vn vz]) (wr.setRow (w.heap.size + 1) #[.slice ta tn tz, .slice ka kn kz, .slice va vn vz]) := load_v (X1.row _) rfl
      have BF := below_setRow BB (by omega : w.heap.size ≤ w.heap.size + 1) #[.slice ta tn tz, .slice ka kn kz, .slice va vn vz]
      go_wp2_with (refine wpList_store_row rfl 48 _ _ rfl (w.heap.size + 1) #[.slice ta tn tz, .slice ka kn kz, .slice va vn vz] rfl rfl 48 _ X1 (by exact Tryz.infoV) rfl (by simp [Value.oneCell']) ?_)
      refine bodyPost_ret (results_cBt (by rfl) _ _ _ _ rfl hlr) rfl ?_
      refine ⟨⟨⟨ta, tn, tz⟩, ⟨ka, kn, kz⟩, ⟨va, vn, vz⟩⟩, by rw [HRZ.out]; rfl, ?_, BF⟩
      rw [HRZ.out]
      have sR : (wr.setRow (w.heap.size + 1) #[.slice ta tn tz, .slice ka kn kz, .slice va vn vz]).heap.size = wr.heap.size := by simp [World.setRow]
      have oth : ∀ b, w.heap.size + 3 ≤ b → (wr.setRow (w.heap.size + 1) #[.slice ta tn tz, .slice ka kn kz, .slice va vn vz]).heap[b]? = wr.heap[b]? := fun b hb => setRow_other _ _ _ _ (by omega)
      obtain ⟨l1, l2, l3, l4⟩ := HLEN0.out
      have NK := (HK.out.other (by rw [sR]; exact Nat.le_refl _) (fun b hb => oth b (HSK.out b (by rcases hb with h | h; exact Or.inl h; exact Or.inr (Or.inl h))))).new l1 hL2
      have NV := (HV.out.other (by rw [sR]; exact Nat.le_refl _) (fun b hb => oth b (HSK.out b (by rcases hb with h | h; exact Or.inr (Or.inr (Or.inl h)); exact Or.inr (Or.inr (Or.inr h)))))).new l2 hL2
      obtain ⟨pt, NT, hpt⟩ := HT.out
      have NT2 := NT.turn (p' := pt) (w' := wr.setRow (w.heap.size + 1) #[.slice ta tn tz, .slice ka kn kz, .slice va vn vz]) ⟨by rw [sR]; exact Nat.le_refl _, fun b hb hp => ⟨hp, oth b (hpt b hp).1⟩⟩
      exact fun w9 h9 => ⟨NT2 w9 (fun b hp hb => h9 b (by have := (hpt b hp).1; show w.heap.size ≤ b; omega) hb), NK w9 h9, NV w9 h9⟩
theorem join_any (Vo D Hd H L : Int) (s : Sl) (l : List Pg) (w : World) (hs : PgsAt w s l) (hF : ∀ X ∈ l, -9223372036854775808 ≤ X.F ∧ X.F ≤ 9223372036854775807) (hD : D ≤ 1048576) (hL : L ≤ 4096) :
   Calls Tryz.prog 16 #[.agg (cfgC Vo D Hd H L), s.v] w fun e w' => ∃ v : VwV, e = .returned (.tuple #[.agg v.cells, .int .i64 (jnS Vo D L noVw l).1]) ∧ New w.heap.size w' (fun w => VwAt w v (jnS Vo D L noVw l).2) ∧ Below w.heap.size w w' :=
  join_gen Vo D Hd H L s l w hs hF fun X _ h0 => by
    obtain ⟨_, h2, _, _, h5, h6⟩ := ck_zero h0
    exact ⟨by omega, fun R hR r hr => by have := (rfB_spec h5 R hR).2 r hr; omega, fun R hR r hr => by have := (rfB_spec h6 R hR).2 r hr; omega⟩
end Go.Proofs.YtcanjlofnpnhkaaGreatDoor

/- Rows of bytes of the program's own; the bytes of numbers. -/
namespace Go.Proofs.YtcanjlofnpnhkaaGreatDoor
open Go.ChangeShapes Go.WideShapes Go.ChangeAt Go.RowKit
def txt (l : List UInt8) : ByteArray := ⟨l.toArray⟩
theorem txt_list (l : List UInt8) : (txt l).data.toList = l := by simp [txt]
theorem txt_size (l : List UInt8) : (txt l).size = l.length := by simp [txt, ByteArray.size]
theorem txt_of (s : ByteArray) : txt s.data.toList = s := by simp [txt]
/-- A row of bytes of the call's own. -/
def BOwn (w : World) (B : Nat) (v : Value) (l : List UInt8) : Prop := w.ownsRow B 5 1 v l.length (l.map fun b => Value.int .u8 (b.toNat : Int))
theorem Tryz.infoByte : (Tryz.prog.info? 5).map (fun i => (i.zero, i.size, i.bytes)) = some (some (.int .u8 0), 1, 1) := by kernel_rfl
theorem BOwn.below {w w' : World} {B : Nat} {v : Value} {l : List UInt8} (h : BOwn w B v l) (hb : Below w.heap.size w w') : BOwn w' B v l := owns_below h hb
/-- append of bytes that were just laid. -/
theorem wpList_append_bytes {w : World} {ops : Array Oper} {rest : List Oper} {o : Oper} {a : Act} {Q : Exit → Act → World → Prop} (hgd : o.guard = none) (s x : Operand)
    (ho : o.op = .call { callee := .builtin .append, args := #[s, x], argTypes := #[96, 96] })
    (B : Nat) (v : Value) (l : List UInt8) (hs : a.eval s = v) (hO : BOwn w B v l)
    (g k : Nat) (bs : List UInt8) (hk : bs.length = k) (hx : a.eval x = .slice (some ⟨g, 0, none⟩) k k) (hX : ∀ j (hj : j < bs.length), w.cell? ((⟨g, 0, none⟩ : Addr).add j) = some (.int .u8 (bs[j].toNat : Int))) (hlen : l.length + k ≤ 16777216) (hB : B ≤ w.heap.size)
    (h : ∀ v' w', BOwn w' B v' (l ++ bs) → Below B w w' → wpList Tryz.prog ops Q rest (a.put o.dst v') w') : wpList Tryz.prog ops Q (o :: rest) a w := by
  subst hk
  obtain ⟨i0, hi, hz0, hz1, hz2⟩ := info_parts Tryz.infoByte
  refine wpList_append_own w hgd s x 96 ho B 5 i0 (.int .u8 0) 1 1 Tryz.underlying96 hi hz0 hz1 hz2 rfl (by decide) _ l.length _ hs hO ⟨g, 0, none⟩ bs.length bs.length (bs.map fun b => .int .u8 (b.toNat : Int)) hx (by simp) ?_ (by intro u hu; obtain ⟨b, _, rfl⟩ := List.mem_map.1 hu; rfl) (by unfold maxLen; omega) (by omega) hB ?_
  · intro j u hj
    rw [List.getElem?_map] at hj
    rcases Nat.lt_or_ge j bs.length with h1 | h1
    · rw [List.getElem?_eq_getElem h1] at hj
      simp only [Option.map_some, Option.some.injEq] at hj
      subst hj
      exact hX j h1
    · rw [List.getElem?_eq_none h1] at hj; cases hj
  · intro v' w' hown' hgr _
    have hb : Below B w w' := (Below.refl _ _).grown hgr hB (fun k hk => (hO.lt k hk).1)
    refine h v' w' ?_ hb
    unfold BOwn
    rw [List.map_append, List.length_append]
    exact hown'
/-- The text of a row of bytes. -/
theorem BOwn.conv {w : World} {B : Nat} {v : Value} {l : List UInt8} (h : BOwn w B v l) : (convert 96 9 v).run Tryz.prog w = .ok (.string (txt l)) w := by
  rcases h.2 with ⟨h3, h4⟩ | ⟨g, cap, cur, hv, hg, hh, h5, h6, h7, h8⟩
  · obtain rfl : l = [] := List.length_eq_zero_iff.1 h4
    subst h3
    kernel_rfl
  · subst hv
    refine run_convert_bytes_back (P := Tryz.prog) w 96 9 5 ⟨g, 0, none⟩ cap l Tryz.underlying96 Tryz.underlying5 Tryz.underlying9 (fun j hj => ?_)
    exact World.ownsRow.cells h (g := g) rfl j (.int .u8 ((l[j]).toNat : Int)) (by rw [List.getElem?_map, List.getElem?_eq_getElem hj]; rfl)
def byteOf (x : Int) : UInt8 := UInt8.ofNat (x % 256).toNat
theorem byteOf_toNat (x : Int) : ((byteOf x).toNat : Int) = x % 256 := by
  unfold byteOf
  rw [UInt8.toNat_ofNat']
  have h1 : 0 ≤ x % 256 := Int.emod_nonneg _ (by omega)
  have h2 : x % 256 < 256 := Int.emod_lt_of_pos _ (by omega)
  omega
/-- A number's bytes, the highest first. -/
def numB (x : Int) : List UInt8 := [byteOf (x / 16777216), byteOf (x / 65536), byteOf (x / 256), byteOf x]
def rowB (r : List Int) : List UInt8 := r.flatMap numB
def gridB (R : List (List Int)) : List UInt8 := R.flatMap rowB
def cubeB (C : List (List (List Int))) : List UInt8 := C.flatMap gridB
theorem rowB_len (r : List Int) : (rowB r).length = 4 * r.length := by
  induction r with
  | nil => rfl
  | cons x r ih => unfold rowB at *; rw [List.flatMap_cons, List.length_append, ih, List.length_cons]; show 4 + _ = _; omega
theorem flat_take {α : Type} (f : α → List UInt8) (l : List α) (k : Nat) (x : α) (h : l[k]? = some x) : (l.take (k + 1)).flatMap f = (l.take k).flatMap f ++ f x := by
  rw [List.take_add_one, h, List.flatMap_append]
  simp
theorem flat_len {α : Type} (f : α → List UInt8) (l : List α) (k : Nat) (x : α) (h : l[k]? = some x) : ((l.take k).flatMap f).length + (f x).length ≤ (l.flatMap f).length := by
  have h1 : l = l.take (k + 1) ++ l.drop (k + 1) := (List.take_append_drop _ _).symm
  have h2 : (l.flatMap f).length = ((l.take (k + 1)).flatMap f).length + ((l.drop (k + 1)).flatMap f).length := by rw [← List.length_append, ← List.flatMap_append, ← h1]
  rw [flat_take f l k x h, List.length_append] at h2
  omega
end Go.Proofs.YtcanjlofnpnhkaaGreatDoor

/- Package block: addNums. -/
namespace Go.Proofs.YtcanjlofnpnhkaaGreatDoor
open Go.ChangeShapes Go.WideShapes Go.ChangeAt Go.RowKit
theorem numB_cells (w : World) (x : Int) (j : Nat) (hj : j < (numB x).length) : (w.alloc (.cells #[.int .u8 (x / 16777216 % 256), .int .u8 (x / 65536 % 256), .int .u8 (x / 256 % 256), .int .u8 (x % 256)] 5)).cell? ((⟨w.heap.size, 0, none⟩ : Addr).add j) = some (.int .u8 ((numB x)[j].toNat : Int)) := by
  have e := heap_alloc_new w (.cells #[.int .u8 (x / 16777216 % 256), .int .u8 (x / 65536 % 256), .int .u8 (x / 256 % 256), .int .u8 (x % 256)] 5)
  have h4 : (numB x).length = 4 := rfl
  rw [Addr.add_mid, Nat.zero_add]
  unfold World.cell?
  simp only [e]
  have hj4 : j < 4 := by omega
  match j, hj, hj4 with
  | 0, _, _ => show some (Value.int .u8 (x / 16777216 % 256)) = some (Value.int .u8 ((byteOf (x / 16777216)).toNat : Int)); rw [byteOf_toNat]
  | 1, _, _ => show some (Value.int .u8 (x / 65536 % 256)) = some (Value.int .u8 ((byteOf (x / 65536)).toNat : Int)); rw [byteOf_toNat]
  | 2, _, _ => show some (Value.int .u8 (x / 256 % 256)) = some (Value.int .u8 ((byteOf (x / 256)).toNat : Int)); rw [byteOf_toNat]
  | 3, _, _ => show some (Value.int .u8 (x % 256)) = some (Value.int .u8 ((byteOf x).toNat : Int)); rw [byteOf_toNat]
set_option maxRecDepth 100000 in
set_option maxHeartbeats 3200000 in
theorem addNums_any (w0 : World) (B : Nat) (v : Value) (l : List UInt8) (ao : Option Addr) (m ca : Nat) (C : List (List (List Int))) (w : World) (hO : BOwn w B v l) (hC : CubeAt w0 ao m C) (hB : Below w0.heap.size w0 w) (hB0 : w0.heap.size ≤ B) (hBw : B ≤ w.heap.size) (hlen : l.length + (cubeB C).length ≤ 1000000) :
   Calls Tryz.prog 33 #[v, .slice ao m ca] w fun e w' => ∃ v', e = .returned v' ∧ BOwn w' B v' (l ++ cubeB C) ∧ Below B w w' := by
  have HC : Hid (CubeAt w0 ao m C) := hC
  have HB : Hid (Below w0.heap.size w0 w) := hB
  have HLN : Hid (C.length = m) := hC.len
  have HLE : Hid (l.length + (cubeB C).length ≤ 1000000) := hlen
  have hmx := hC.max
  have hsw := hBw
  have HB0 : Hid (w0.heap.size ≤ B) := hB0
  clear hC hB hlen hB0 hBw
  go_enter Tryz.func33, Tryz.ntmps33
  go_wp2
  go_loopg [0, 13] m (fun r u s13 wr => ∃ (i : Nat) (v : Value), i ≤ m ∧ r = m - i ∧ s13 = .int .i64 (i : Int) ∧ u = v ∧ BOwn wr B v (l ++ cubeB (C.take i)) ∧ Below B w wr)
  case atStart => exact ⟨0, v, by omega, by omega, rfl, rfl, by rw [List.take_zero]; show BOwn _ _ _ (l ++ []); rw [List.append_nil]; exact hO, Below.refl _ _⟩
  case round =>
    clear hO
    obtain ⟨i, u, hi, rfl, rfl, hu, OB, BB⟩ := hrel
    have hu2 := hu.symm
    subst hu2
    clear hu
    by_cases hlt : i < m
    · obtain ⟨b, o, rfl, hc⟩ := HC.out.cells (by omega)
      have hR : C[i]? = some (C[i]'(by rw [HLN.out]; exact hlt)) := List.getElem?_eq_getElem _
      generalize C[i]'(by rw [HLN.out]; exact hlt) = R at hR
      obtain ⟨ro, n, c, k1, k2, k3, k4, G⟩ := hc i R hR
      have B0 := HB.out.trans (BB.mono HB0.out)
      have q1 := cell_keep k1 B0
      have hn := G.max
      have HGL : Hid (R.length = n) := G.len
      have HG : Hid (GridAt w0 ro n R) := G
      have HF1 : Hid (cubeB (C.take (i + 1)) = cubeB (C.take i) ++ gridB R) := flat_take gridB C i R hR
      have HF2 : Hid ((cubeB (C.take i)).length + (gridB R).length ≤ (cubeB C).length) := flat_len gridB C i R hR
      clear hc k1 k2 k3 k4 G hR
      generalize cubeB (C.take i) = P at *
      go_upto_region 5 with fail
      clear q1
      go_loopg [0, 19] n (fun r u s19 wr => ∃ (j : Nat) (v : Value), j ≤ n ∧ r = n - j ∧ s19 = .int .i64 (j : Int) ∧ u = v ∧ BOwn wr B v ((l ++ P) ++ gridB (R.take j)) ∧ Below B w wr)
      case atStart => exact ⟨0, u, by omega, by omega, rfl, rfl, by rw [List.take_zero]; show BOwn _ _ _ ((l ++ P) ++ []); rw [List.append_nil]; exact OB, BB⟩
      case round =>
        clear OB BB B0
        obtain ⟨j, u, hj, rfl, rfl, hu, OB, BB⟩ := hrel
        have hu2 := hu.symm
        subst hu2
        clear hu
        by_cases hjt : j < n
        · obtain ⟨b2, o2, rfl, hc⟩ := HG.out.cells (by omega)
          obtain ⟨r3, l3, c3, s1, A⟩ := hc j hjt
          have B0 := HB.out.trans (BB.mono HB0.out)
          have q1 := cell_keep s1 B0
          have hr : R[j]? = some (rowOf R j) := by
            unfold rowOf
            rw [List.getD_eq_getElem?_getD, List.getElem?_eq_getElem (by rw [HGL.out]; exact hjt)]
            rfl
          have HF3 : Hid (gridB (R.take (j + 1)) = gridB (R.take j) ++ rowB (rowOf R j)) := flat_take rowB R j _ hr
          have HF4 : Hid ((gridB (R.take j)).length + (rowB (rowOf R j)).length ≤ (gridB R).length) := flat_len rowB R j _ hr
          have HA : Hid (Arg w0 r3 l3 c3 (rowOf R j)) := A
          clear hc s1 A hr
          generalize gridB (R.take j) = P2 at *
          generalize rowOf R j = r at *
          have hal := HA.out.row.len
          have hl3 := HA.out.row.max
          have HAL : Hid (r.length = l3) := hal
          clear hal
          go_upto_region 8 with fail
          clear q1
          go_loopg [0, 25] l3 (fun rr u s25 wr => ∃ (k : Nat) (v : Value), k ≤ l3 ∧ rr = l3 - k ∧ s25 = .int .i64 (k : Int) ∧ u = v ∧ BOwn wr B v (((l ++ P) ++ P2) ++ rowB (r.take k)) ∧ Below B w wr)
          case atStart => exact ⟨0, u, by omega, by omega, rfl, rfl, by rw [List.take_zero]; show BOwn _ _ _ (((l ++ P) ++ P2) ++ []); rw [List.append_nil]; exact OB, BB⟩
          case round =>
            clear OB BB B0
            obtain ⟨k, u, hk, rfl, rfl, hu, OB, BB⟩ := hrel
            have hu2 := hu.symm
            subst hu2
            clear hu
            by_cases hkt : k < l3
            · obtain ⟨b3, o3, rfl, hc⟩ := HA.out.row.cells (by omega)
              have q1 := cell_keep (hc k hkt) (HB.out.trans (BB.mono HB0.out))
              have sx := HA.out.row.small k
              have hx : r[k]? = some (el r k) := by
                unfold el
                rw [List.getD_eq_getElem?_getD, List.getElem?_eq_getElem (by rw [HAL.out]; exact hkt)]
                rfl
              have HF5 : Hid (rowB (r.take (k + 1)) = rowB (r.take k) ++ numB (el r k)) := flat_take numB r k _ hx
              have HF6 : Hid ((rowB (r.take k)).length + 4 ≤ (rowB r).length) := flat_len numB r k _ hx
              clear hc hx
              generalize rowB (r.take k) = P3 at *
              generalize el r k = x at *
              have BA : Below wr.heap.size wr (wr.alloc (.cells #[.int .u8 (x / 16777216 % 256), .int .u8 (x / 65536 % 256), .int .u8 (x / 256 % 256), .int .u8 (x % 256)] 5)) := (Below.refl _ _).alloc (Nat.le_refl _) _
              have CN := numB_cells wr x
              have OA := OB.below BA
              have hwl := BB.size
              have hal := BA.size
              have hle := HLE.out
              have hf2 := HF2.out
              have hf4 := HF4.out
              have hf6 := HF6.out
              have DA := BB.trans (BA.mono (Nat.le_trans hsw hwl))
              generalize hwA : wr.alloc (.cells #[.int .u8 (x / 16777216 % 256), .int .u8 (x / 65536 % 256), .int .u8 (x / 256 % 256), .int .u8 (x % 256)] 5) = wA at *
              go_wp2_with (at_builtin; refine wpList_append_bytes rfl _ _ rfl B u _ rfl (by exact OA) wr.heap.size 4 (numB x) rfl rfl (by exact CN) (by simp only [List.length_append]; omega) (by omega) ?_; intro v' w5 O5 B5)
              go_roundg (l3 - (k + 1))
              case measure => omega
              case rel => exact ⟨k + 1, _, by omega, rfl, by go_num, rfl, by rw [HF5.out, ← List.append_assoc]; exact O5, DA.trans B5⟩
            · obtain rfl : l3 = k := by omega
              have HRE : Hid (rowB (r.take l3) = rowB r) := by show _ = _; rw [List.take_of_length_le (by rw [HAL.out]; exact Nat.le_refl _)]
              rw [HRE.out] at OB
              go_wp2_with fail
              go_roundg (n - (j + 1))
              case measure => omega
              case rel => exact ⟨j + 1, _, by omega, rfl, by go_num, rfl, by rw [HF3.out, ← List.append_assoc]; exact OB, BB⟩
        · obtain rfl : n = j := by omega
          have HRE : Hid (gridB (R.take n) = gridB R) := by show _ = _; rw [List.take_of_length_le (by rw [HGL.out]; exact Nat.le_refl _)]
          rw [HRE.out] at OB
          go_wp2_with fail
          go_roundg (m - (i + 1))
          case measure => omega
          case rel => exact ⟨i + 1, _, by omega, rfl, by go_num, rfl, by rw [HF1.out, ← List.append_assoc]; exact OB, BB⟩
    · obtain rfl : m = i := by omega
      have HRE : Hid (cubeB (C.take m) = cubeB C) := by show _ = _; rw [List.take_of_length_le (by rw [HLN.out]; exact Nat.le_refl _)]
      rw [HRE.out] at OB
      go_wp2_with fail
      go_ret
      exact ⟨_, rfl, OB, BB⟩
end Go.Proofs.YtcanjlofnpnhkaaGreatDoor

/- Package block: Bytes. -/
namespace Go.Proofs.YtcanjlofnpnhkaaGreatDoor
open Go.ChangeShapes Go.WideShapes Go.ChangeAt Go.RowKit
/-- A page's bytes. -/
def pageB (X : Pg) : List UInt8 := [byteOf (X.T.length : Int), byteOf X.F] ++ X.T.map byteOf ++ cubeB X.K ++ cubeB X.V
theorem bown_two (w : World) (x y : Int) : BOwn (w.alloc (.cells #[.int .u8 (x % 256), .int .u8 (y % 256)] 5)) w.heap.size (.slice (some ⟨w.heap.size, 0, none⟩) 2 2) [byteOf x, byteOf y] := by
  have e := heap_alloc_new w (.cells #[.int .u8 (x % 256), .int .u8 (y % 256)] 5)
  refine ⟨rfl, Or.inr ⟨w.heap.size, 2, _, rfl, Nat.le_refl _, e, by simp, by unfold maxLen; omega, rfl, ?_⟩⟩
  show [Value.int .u8 (x % 256), Value.int .u8 (y % 256)] = [Value.int .u8 ((byteOf x).toNat : Int), Value.int .u8 ((byteOf y).toNat : Int)]
  rw [byteOf_toNat, byteOf_toNat]
theorem one_byte (w : World) (x : Int) (j : Nat) (hj : j < [byteOf x].length) : (w.alloc (.cells #[.int .u8 (x % 256)] 5)).cell? ((⟨w.heap.size, 0, none⟩ : Addr).add j) = some (.int .u8 ([byteOf x][j].toNat : Int)) := by
  have e := heap_alloc_new w (.cells #[.int .u8 (x % 256)] 5)
  rw [Addr.add_mid, Nat.zero_add]
  unfold World.cell?
  simp only [e]
  have hj4 : j < 1 := hj
  match j, hj, hj4 with
  | 0, _, _ => show some (Value.int .u8 (x % 256)) = some (Value.int .u8 ((byteOf x).toNat : Int)); rw [byteOf_toNat]
theorem bown_le {w : World} {B B' : Nat} {v : Value} {l : List UInt8} (h : BOwn w B v l) (hb : B' ≤ B) : BOwn w B' v l := owns_mono h hb (fun _ _ => rfl)
theorem map_take {A : List Int} {k : Nat} (h : k < A.length) : (A.take (k + 1)).map byteOf = (A.take k).map byteOf ++ [byteOf (el A k)] := by
  have e : A[k]? = some (el A k) := by unfold el; rw [List.getD_eq_getElem?_getD, List.getElem?_eq_getElem h]; rfl
  rw [List.take_add_one, e, List.map_append]; rfl
set_option maxRecDepth 100000 in
set_option maxHeartbeats 3200000 in
theorem bytes_bad (Vo D Hd H L : Int) (p : PgV) (X : Pg) (w : World) (hp : PgAt w p X) (hF : -9223372036854775808 ≤ X.F ∧ X.F ≤ 9223372036854775807) (hck : ckN Vo D L X ≠ 0) :
   Calls Tryz.prog 12 #[.agg (cfgC Vo D Hd H L), .agg p.cells] w fun e w' => e = .returned (.tuple #[.string ⟨#[]⟩, .int .i64 (ckN Vo D L X)]) ∧ Below w.heap.size w w' := by
  have CKA := fun (wv : World) (hb : Below w.heap.size w wv) => check11_any Vo D Hd H L p X wv (hp.below hb) hF
  obtain ⟨⟨ta, tn, tz⟩, F, ⟨ka, kn, kz⟩, ⟨va, vn, vz⟩⟩ := p
  clear hp hF
  rw [show PgV.cells ⟨⟨ta, tn, tz⟩, F, ⟨ka, kn, kz⟩, ⟨va, vn, vz⟩⟩ = #[.slice ta tn tz, .int .i64 F, .slice ka kn kz, .slice va vn vz] from rfl] at CKA ⊢
  rw [show cfgC Vo D Hd H L = #[.int .i64 Vo, .int .i64 D, .int .i64 Hd, .int .i64 H, .int .i64 L] from rfl] at CKA ⊢
  generalize ckN Vo D L X = cn at *
  have X0 := blk_new w 23 #[.int .i64 Vo, .int .i64 D, .int .i64 Hd, .int .i64 H, .int .i64 L]
  have B0 : Below w.heap.size w (w.alloc (.cells #[.int .i64 Vo, .int .i64 D, .int .i64 Hd, .int .i64 H, .int .i64 L] 23)) := (Below.refl _ _).alloc (Nat.le_refl _) _
  have s0 : (w.alloc (.cells #[.int .i64 Vo, .int .i64 D, .int .i64 Hd, .int .i64 H, .int .i64 L] 23)).heap.size = w.heap.size + 1 := by simp
  generalize hw0 : w.alloc (.cells #[.int .i64 Vo, .int .i64 D, .int .i64 Hd, .int .i64 H, .int .i64 L] 23) = w0 at *
  have X1 := blk_new w0 30 #[.slice ta tn tz, .int .i64 F, .slice ka kn kz, .slice va vn vz]
  have B1 : Below w0.heap.size w0 (w0.alloc (.cells #[.slice ta tn tz, .int .i64 F, .slice ka kn kz, .slice va vn vz] 30)) := (Below.refl _ _).alloc (Nat.le_refl _) _
  rw [s0] at X1
  generalize hw1 : w0.alloc (.cells #[.slice ta tn tz, .int .i64 F, .slice ka kn kz, .slice va vn vz] 30) = w1 at *
  replace X0 := X0.below B1
  replace B1 := below_then B0 B1
  have C1 := CKA w1 B1
  have a0 : w1.cell? ⟨w.heap.size, 0, none⟩ = some (.int .i64 Vo) := X0.cell 0 rfl
  have a1 : w1.cell? ⟨w.heap.size, 1, none⟩ = some (.int .i64 D) := X0.cell 1 rfl
  have a2 : w1.cell? ⟨w.heap.size, 2, none⟩ = some (.int .i64 Hd) := X0.cell 2 rfl
  have a3 : w1.cell? ⟨w.heap.size, 3, none⟩ = some (.int .i64 H) := X0.cell 3 rfl
  have a4 : w1.cell? ⟨w.heap.size, 4, none⟩ = some (.int .i64 L) := X0.cell 4 rfl
  have b0 : w1.cell? ⟨w.heap.size + 1, 0, none⟩ = some (.slice ta tn tz) := X1.cell 0 rfl
  have b1 : w1.cell? ⟨w.heap.size + 1, 1, none⟩ = some (.int .i64 F) := X1.cell 1 rfl
  have b2 : w1.cell? ⟨w.heap.size + 1, 2, none⟩ = some (.slice ka kn kz) := X1.cell 2 rfl
  have b3 : w1.cell? ⟨w.heap.size + 1, 3, none⟩ = some (.slice va vn vz) := X1.cell 3 rfl
  have hz : (cn == 0) = false := by simpa using hck
  clear CKA X0 X1
  go_enter Tryz.func12, Tryz.ntmps12
  go_wp2_with fail
  refine C1.mono ?_
  rintro e w2 ⟨rfl, B2⟩
  clear hw0 hw1 a0 a1 a2 a3 a4 b0 b1 b2 b3
  go_wp2_with fail
  go_ret2
  exact ⟨rfl, below_then B1 B2⟩
set_option maxRecDepth 100000 in
set_option maxHeartbeats 3200000 in
theorem bytes_ok (Vo D Hd H L : Int) (p : PgV) (X : Pg) (w : World) (hp : PgAt w p X) (hF : -9223372036854775808 ≤ X.F ∧ X.F ≤ 9223372036854775807) (hck : ckN Vo D L X = 0) (hsz : (cubeB X.K).length + (cubeB X.V).length ≤ 900000) :
   Calls Tryz.prog 12 #[.agg (cfgC Vo D Hd H L), .agg p.cells] w fun e w' => e = .returned (.tuple #[.string (txt (pageB X)), .int .i64 0]) ∧ Below w.heap.size w w' := by
  have CKA := fun (wv : World) (hb : Below w.heap.size w wv) => check11_any Vo D Hd H L p X wv (hp.below hb) hF
  rw [hck] at CKA
  obtain ⟨⟨ta, tn, tz⟩, F, ⟨ka, kn, kz⟩, ⟨va, vn, vz⟩⟩ := p
  have h128 := (plB_true (ck_zero hck).1).2.1
  obtain ⟨T, F', K, V⟩ := X
  have epf : F = F' := hp.f
  subst epf
  simp only at hF hsz h128
  have et : T.length = tn := hp.t.row.len
  have HT : Hid (IArg w ta tn tz T) := hp.t
  have HK : Hid (CubeAt w ka kn K) := hp.k
  have HV : Hid (CubeAt w va vn V) := hp.v
  have HSZ : Hid ((cubeB K).length + (cubeB V).length ≤ 900000) := hsz
  have HPB : Hid (pageB ⟨T, F, K, V⟩ = [byteOf (tn : Int), byteOf F] ++ T.map byteOf ++ cubeB K ++ cubeB V) := by show _ = _; rw [← et]; rfl
  generalize pageB ⟨T, F, K, V⟩ = RB at *
  rw [et] at h128
  have HET : Hid (T.length = tn) := et
  clear hp hck hsz et
  rw [show PgV.cells ⟨⟨ta, tn, tz⟩, F, ⟨ka, kn, kz⟩, ⟨va, vn, vz⟩⟩ = #[.slice ta tn tz, .int .i64 F, .slice ka kn kz, .slice va vn vz] from rfl] at CKA ⊢
  rw [show cfgC Vo D Hd H L = #[.int .i64 Vo, .int .i64 D, .int .i64 Hd, .int .i64 H, .int .i64 L] from rfl] at CKA ⊢
  have X0 := blk_new w 23 #[.int .i64 Vo, .int .i64 D, .int .i64 Hd, .int .i64 H, .int .i64 L]
  have B0 : Below w.heap.size w (w.alloc (.cells #[.int .i64 Vo, .int .i64 D, .int .i64 Hd, .int .i64 H, .int .i64 L] 23)) := (Below.refl _ _).alloc (Nat.le_refl _) _
  have s0 : (w.alloc (.cells #[.int .i64 Vo, .int .i64 D, .int .i64 Hd, .int .i64 H, .int .i64 L] 23)).heap.size = w.heap.size + 1 := by simp
  generalize hw0 : w.alloc (.cells #[.int .i64 Vo, .int .i64 D, .int .i64 Hd, .int .i64 H, .int .i64 L] 23) = w0 at *
  have X1 := blk_new w0 30 #[.slice ta tn tz, .int .i64 F, .slice ka kn kz, .slice va vn vz]
  have B1 : Below w0.heap.size w0 (w0.alloc (.cells #[.slice ta tn tz, .int .i64 F, .slice ka kn kz, .slice va vn vz] 30)) := (Below.refl _ _).alloc (Nat.le_refl _) _
  rw [s0] at X1
  generalize hw1 : w0.alloc (.cells #[.slice ta tn tz, .int .i64 F, .slice ka kn kz, .slice va vn vz] 30) = w1 at *
  replace X0 := X0.below B1
  replace B1 := below_then B0 B1
  have C1 := CKA w1 B1
  have a0 : w1.cell? ⟨w.heap.size, 0, none⟩ = some (.int .i64 Vo) := X0.cell 0 rfl
  have a1 : w1.cell? ⟨w.heap.size, 1, none⟩ = some (.int .i64 D) := X0.cell 1 rfl
  have a2 : w1.cell? ⟨w.heap.size, 2, none⟩ = some (.int .i64 Hd) := X0.cell 2 rfl
  have a3 : w1.cell? ⟨w.heap.size, 3, none⟩ = some (.int .i64 H) := X0.cell 3 rfl
  have a4 : w1.cell? ⟨w.heap.size, 4, none⟩ = some (.int .i64 L) := X0.cell 4 rfl
  have b0 : w1.cell? ⟨w.heap.size + 1, 0, none⟩ = some (.slice ta tn tz) := X1.cell 0 rfl
  have b1 : w1.cell? ⟨w.heap.size + 1, 1, none⟩ = some (.int .i64 F) := X1.cell 1 rfl
  have b2 : w1.cell? ⟨w.heap.size + 1, 2, none⟩ = some (.slice ka kn kz) := X1.cell 2 rfl
  have b3 : w1.cell? ⟨w.heap.size + 1, 3, none⟩ = some (.slice va vn vz) := X1.cell 3 rfl
  clear CKA X0
  go_enter Tryz.func12, Tryz.ntmps12
  go_wp2_with fail
  refine C1.mono ?_
  rintro e w2 ⟨rfl, B2⟩
  replace X1 := X1.below B2
  have BB := below_then B1 B2
  clear C1 hw0 hw1 s0 a0 a1 a2 a3 a4 b0 b1 b2 b3 B1 B2 B0
  have b0 : w2.cell? ⟨w.heap.size + 1, 0, none⟩ = some (.slice ta tn tz) := X1.cell 0 rfl
  have b1 : w2.cell? ⟨w.heap.size + 1, 1, none⟩ = some (.int .i64 F) := X1.cell 1 rfl
  have BA : Below w2.heap.size w2 (w2.alloc (.cells #[.int .u8 (tn : Int), .int .u8 (F % 256)] 5)) := (Below.refl _ _).alloc (Nat.le_refl _) _
  have O3 := bown_two w2 (tn : Int) F
  rw [show (tn : Int) % 256 = (tn : Int) by omega] at O3
  have s2 := BB.size
  obtain ⟨u3, hu3⟩ : ∃ u3, u3 = Value.slice (some ⟨w2.heap.size, 0, none⟩) 2 2 := ⟨_, rfl⟩
  generalize hw3 : w2.alloc (.cells #[.int .u8 (tn : Int), .int .u8 (F % 256)] 5) = w3 at *
  have c0 : w2.cell? ⟨w.heap.size + 1, 0, none⟩ = some (.slice ta tn tz) := b0
  go_upto_region 5 with fail
  clear hw3 c0
  rw [← hu3] at O3 ⊢
  clear hu3
  have X3 := X1.below BA
  have HX1 : Hid (Blk w2 (w.heap.size + 1) 30 #[.slice ta tn tz, .int .i64 F, .slice ka kn kz, .slice va vn vz]) := X1
  have HBB : Hid (Below w.heap.size w w2) := BB
  have HS2 : Hid (w.heap.size ≤ w2.heap.size) := s2
  have B3 := BA
  have c0 : w3.cell? ⟨w.heap.size + 1, 0, none⟩ = some (.slice ta tn tz) := X3.cell 0 rfl
  clear b0 b1 X1 BB BA s2 X3
  go_wp2_with fail
  clear c0
  go_loopg [7, 27] tn (fun r u s27 wr => ∃ (k : Nat) (v : Value), k ≤ tn ∧ r = tn - k ∧ s27 = .int .i64 (k : Int) ∧ u = v ∧ BOwn wr w2.heap.size v ([byteOf (tn : Int), byteOf F] ++ (T.take k).map byteOf) ∧ Below w2.heap.size w2 wr)
  case atStart => exact ⟨0, u3, by omega, by omega, rfl, rfl, by rw [List.take_zero]; exact O3, B3⟩
  case round =>
    clear O3 B3
    obtain ⟨k, u, hk, rfl, rfl, hu, OB, BB⟩ := hrel
    have hu2 := hu.symm
    subst hu2
    clear hu
    by_cases hkt : k < tn
    · obtain ⟨b3, o3, rfl, hc⟩ := HT.out.row.cells (by omega)
      have q1 := cell_keep (hc k hkt) (below_then HBB.out BB)
      have HF5 : Hid ((T.take (k + 1)).map byteOf = (T.take k).map byteOf ++ [byteOf (el T k)]) := map_take (by rw [HET.out]; exact hkt)
      have HL5 : Hid (((T.take k).map byteOf).length ≤ 128) := by show _ ≤ _; rw [List.length_map, List.length_take]; omega
      clear hc
      generalize (T.take k).map byteOf = P3 at *
      generalize el T k = x at *
      have BA : Below wr.heap.size wr (wr.alloc (.cells #[.int .u8 (x % 256)] 5)) := (Below.refl _ _).alloc (Nat.le_refl _) _
      have CN := one_byte wr x
      have OA := OB.below BA
      have hwl := BB.size
      have hal := BA.size
      have hl5 := HL5.out
      have DA := below_then BB BA
      generalize hwA : wr.alloc (.cells #[.int .u8 (x % 256)] 5) = wA at *
      go_wp2_with (at_builtin; refine wpList_append_bytes rfl _ _ rfl w2.heap.size u _ rfl (by exact OA) wr.heap.size 1 [byteOf x] rfl rfl (by exact CN) (by simp only [List.length_append]; simp; omega) (by omega) ?_; intro v' w5 O5 B5)
      go_roundg (tn - (k + 1))
      case measure => omega
      case rel => exact ⟨k + 1, _, by omega, rfl, by go_num, rfl, by rw [HF5.out, ← List.append_assoc]; exact O5, DA.trans B5⟩
    · obtain rfl : tn = k := by omega
      have HRE : Hid ((T.take tn).map byteOf = T.map byteOf) := by show _ = _; rw [List.take_of_length_le (by rw [HET.out]; exact Nat.le_refl _)]
      rw [HRE.out] at OB
      go_upto_region 10 with fail
      have BD : Below wr.heap.size wr wr.drew := (Below.refl _ wr).drew
      have X1 := HX1.out.below BB
      have XD := X1.below BD
      have OD := OB.below BD
      have DD := below_then BB BD
      have hs2 := HS2.out
      have hsD := DD.size
      refine wp_region_held_drew (S := fun w' => Blk w' (w.heap.size + 1) 30 #[.slice ta tn tz, .int .i64 F, .slice ka kn kz, .slice va vn vz]) (by kernel_rfl) (XD) (fun hHeld => ?_)
      generalize hA : wr.drew = wA at *
      clear hA X1 OB BB BD
      refine wpAnyH_take (i := 0) (v := u) rfl (by kernel_rfl) (by kernel_rfl) (by kernel_rfl) (fun _ _ _ h => h) (Or.inl ⟨by rfl, ?_⟩) (by assumption) ?_
      · intro w' hSw
        go_simp
      simp only [List.getElem_toArray, List.getElem_cons_zero, Act.put, List.setIfInBounds_toArray, List.set_cons_zero, List.set_cons_succ]
      refine wpAnyH_take (i := 1) (v := (.pointer (some ⟨w.heap.size + 1, 2, none⟩))) rfl (by kernel_rfl) (by kernel_rfl) (by kernel_rfl) (fun _ _ _ h => h) (Or.inl ⟨by rfl, ?_⟩) (by assumption) ?_
      · intro w' hSw
        go_simp
      simp only [List.getElem_toArray, List.getElem_cons_succ, List.getElem_cons_zero, Act.put, List.setIfInBounds_toArray, List.set_cons_zero, List.set_cons_succ]
      refine wpAnyH_take (i := 2) (v := (.pointer (some ⟨w.heap.size + 1, 2, none⟩))) rfl (by kernel_rfl) (by kernel_rfl) (by kernel_rfl) (fun _ _ _ h => h) (Or.inl ⟨by rfl, ?_⟩) (by assumption) ?_
      · intro w' hSw
        go_simp
      simp only [List.getElem_toArray, List.getElem_cons_succ, List.getElem_cons_zero, Act.put, List.setIfInBounds_toArray, List.set_cons_zero, List.set_cons_succ]
      refine wpAnyH_take (i := 3) (v := (.slice ka kn kz)) rfl (by kernel_rfl) (by kernel_rfl) (by kernel_rfl) (fun _ _ _ h => h) (Or.inl ⟨by rfl, ?_⟩) (by assumption) ?_
      · intro w' hSw
        have c0 : w'.cell? ⟨w.heap.size + 1, 2, none⟩ = some (.slice ka kn kz) := hSw.cell 2 rfl
        go_simp
      simp only [List.getElem_toArray, List.getElem_cons_succ, List.getElem_cons_zero, Act.put, List.setIfInBounds_toArray, List.set_cons_zero, List.set_cons_succ]
      refine wpAnyH_take (i := 5) (v := (.pointer (some ⟨w.heap.size + 1, 2, none⟩))) rfl (by kernel_rfl) (by kernel_rfl) (by kernel_rfl) (fun _ _ _ h => h) (Or.inl ⟨by rfl, ?_⟩) (by assumption) ?_
      · intro w' hSw
        go_simp
      simp only [List.getElem_toArray, List.getElem_cons_succ, List.getElem_cons_zero, Act.put, List.setIfInBounds_toArray, List.set_cons_zero, List.set_cons_succ]
      refine wpAnyH_take (i := 6) (v := (.pointer (some ⟨w.heap.size + 1, 3, none⟩))) rfl (by kernel_rfl) (by kernel_rfl) (by kernel_rfl) (fun _ _ _ h => h) (Or.inl ⟨by rfl, ?_⟩) (by assumption) ?_
      · intro w' hSw
        go_simp
      simp only [List.getElem_toArray, List.getElem_cons_succ, List.getElem_cons_zero, Act.put, List.setIfInBounds_toArray, List.set_cons_zero, List.set_cons_succ]
      refine wpAnyH_take (i := 7) (v := (.slice va vn vz)) rfl (by kernel_rfl) (by kernel_rfl) (by kernel_rfl) (fun _ _ _ h => h) (Or.inl ⟨by rfl, ?_⟩) (by assumption) ?_
      · intro w' hSw
        have c0 : w'.cell? ⟨w.heap.size + 1, 3, none⟩ = some (.slice va vn vz) := hSw.cell 3 rfl
        go_simp
      simp only [List.getElem_toArray, List.getElem_cons_succ, List.getElem_cons_zero, Act.put, List.setIfInBounds_toArray, List.set_cons_zero, List.set_cons_succ]
      have hsz := HSZ.out
      have hl9 : (List.map byteOf T).length = tn := by rw [List.length_map]; exact HET.out
      refine wpAnyH_ready (rs := [4]) (by kernel_rfl) (by simp) ?_
      refine AllReadyH.cons rfl (fun Kc hKc => ?_) AllReadyH.nil
      simp only [List.getElem_toArray, List.getElem_cons_succ, List.getElem_cons_zero]
      rw [if_pos (by rfl)]
      go_wp2_with fail
      refine (addNums_any w w2.heap.size u _ ka kn kz K wA OD HK.out (below_then HBB.out DD) hs2 hsD (by simp only [List.length_append, List.length_cons, List.length_nil, hl9]; omega)).mono ?_
      rintro e w4 ⟨u4, rfl, O4, B4⟩
      have X4 : Blk w4 (w.heap.size + 1) 30 #[.slice ta tn tz, .int .i64 F, .slice ka kn kz, .slice va vn vz] := XD.of_block (B4.block _ HX1.out.lt)
      have D4 := DD.trans B4
      go_wp2_with fail
      refine hKc.out _ _ (X4) (fun hHeld => ?_)
      clear hKc Kc
      refine wpAnyH_ready (rs := [8]) (by kernel_rfl) (by simp) ?_
      refine AllReadyH.cons rfl (fun Kc hKc => ?_) AllReadyH.nil
      simp only [List.getElem_toArray, List.getElem_cons_succ, List.getElem_cons_zero]
      rw [if_pos (by rfl)]
      go_wp2_with fail
      refine (addNums_any w w2.heap.size u4 _ va vn vz V w4 O4 HV.out (below_then HBB.out D4) hs2 D4.size (by simp only [List.length_append, List.length_cons, List.length_nil, hl9]; omega)).mono ?_
      rintro e w5 ⟨u5, rfl, O5, B5⟩
      have X5 : Blk w5 (w.heap.size + 1) 30 #[.slice ta tn tz, .int .i64 F, .slice ka kn kz, .slice va vn vz] := X4.of_block (B5.block _ HX1.out.lt)
      have D5 := D4.trans B5
      go_wp2_with fail
      refine hKc.out _ _ (X5) (fun hHeld => ?_)
      clear hKc Kc
      have hcv := O5.conv
      refine wpAnyH_ready (rs := [9]) (by kernel_rfl) (by simp) ?_
      refine AllReadyH.cons rfl (fun Kc hKc => ?_) AllReadyH.nil
      simp only [List.getElem_toArray, List.getElem_cons_succ, List.getElem_cons_zero]
      rw [if_pos (by rfl)]
      go_wp2_with fail
      refine hKc.out _ _ X5 (fun hHeld => ?_)
      clear hKc Kc hcv
      refine wpAnyH_ready (rs := [10]) (by kernel_rfl) (by simp) ?_
      refine AllReadyH.cons rfl (fun Kc hKc => ?_) AllReadyH.nil
      simp only [List.getElem_toArray, List.getElem_cons_succ, List.getElem_cons_zero]
      rw [if_pos (by rfl)]
      go_wp2_with fail
      refine hKc.out _ _ X5 (fun hHeld => ?_)
      clear hKc Kc
      refine wpAnyH_ready (rs := [11]) (by kernel_rfl) (by simp) ?_
      refine AllReadyH.cons rfl (fun Kc hKc => ?_) AllReadyH.nil
      simp only [List.getElem_toArray, List.getElem_cons_succ, List.getElem_cons_zero]
      rw [if_pos (by rfl)]
      go_wp2_with fail
      refine hKc.out _ _ X5 (fun hHeld => ?_)
      clear hKc Kc
      refine wpAnyH_done (by kernel_rfl) ?_ _
      go_wp2_with fail
      go_ret2
      refine ⟨?_, below_then HBB.out D5⟩
      show Ending.returned (.tuple #[.string (txt (byteOf (tn : Int) :: byteOf F :: (List.map byteOf T ++ (cubeB K ++ cubeB V)))), .int .i64 0]) = _
      rw [HPB.out]
      simp
end Go.Proofs.YtcanjlofnpnhkaaGreatDoor

/- Package block: bytes are taken off a text. -/
namespace Go.Proofs.YtcanjlofnpnhkaaGreatDoor
open Go.ChangeShapes Go.WideShapes Go.ChangeAt Go.RowKit
theorem extract_txt (l : List UInt8) (a b : Nat) : (txt l).extract a b = txt ((l.drop a).take (b - a)) := ByteArray.extract_mk l a b
theorem conv_bytes (s : ByteArray) (w : World) : (convert 9 96 (.string s)).run Tryz.prog w = .ok (.slice (some ⟨w.heap.size, 0, none⟩) s.size (grownCap w s.size 0 5)) (Lib.bytesWorld w 5 s) :=
  Lib.run_convert_string_bytes w 9 96 5 s Tryz.underlying9 Tryz.underlying96 Tryz.underlying5
theorem below_bytes (w : World) (s : ByteArray) : Below w.heap.size w (Lib.bytesWorld w 5 s) := ⟨rfl, rfl, rfl, by rw [Lib.bytesWorld_size]; omega, fun k hk => Lib.bytesWorld_at_old _ _ _ _ hk⟩
theorem bytes_cell (w : World) (l : List UInt8) (j : Nat) (hj : j < l.length) : (Lib.bytesWorld w 5 (txt l)).cell? ⟨w.heap.size, j, none⟩ = some (.int .u8 ((l.getD j 0).toNat : Int)) := by
  rw [Lib.bytesWorld_cell w _ _ _ (by rw [txt_size]; exact hj), txt_list]
/-- What bytes are as one number, the highest first. -/
def valB (l : List UInt8) : Nat := l.foldl (fun x b => x * 256 + b.toNat) 0
theorem valB_snoc (l : List UInt8) (b : UInt8) : valB (l ++ [b]) = valB l * 256 + b.toNat := by unfold valB; rw [List.foldl_append]; rfl
theorem valB_lt : ∀ (k : Nat) (l : List UInt8), l.length = k → valB l < 256 ^ k
  | 0, l, h => by rw [List.length_eq_zero_iff.1 h]; decide
  | k + 1, l, h => by
    rcases List.eq_nil_or_concat l with e | ⟨l', b, e⟩
    · rw [e] at h; cases h
    · rw [List.concat_eq_append] at e
      subst e
      rw [List.length_append, List.length_singleton] at h
      have ih := valB_lt k l' (by omega)
      have hb := b.toNat_lt
      rw [valB_snoc, Nat.pow_succ]
      omega
theorem take_snocB {l : List UInt8} {j : Nat} (h : j < l.length) : l.take (j + 1) = l.take j ++ [l.getD j 0] := by
  rw [List.take_add_one, List.getElem?_eq_getElem h, List.getD_eq_getElem?_getD, List.getElem?_eq_getElem h]
  rfl
theorem bits_or_u32_nat (a b : Nat) (ha : a < 4294967296) (hb : b < 4294967296) : bits .or .u32 (a : Int) (b : Int) = ((a ||| b : Nat) : Int) := by
  have hx : a ||| b < 2 ^ 32 := Nat.or_lt_two_pow (by omega) (by omega)
  have h1 : (BitVec.ofInt 32 (a : Int)).toNat = a := by
    rw [BitVec.ofInt_natCast, BitVec.toNat_ofNat]; exact Nat.mod_eq_of_lt (by omega)
  have h2 : (BitVec.ofInt 32 (b : Int)).toNat = b := by
    rw [BitVec.ofInt_natCast, BitVec.toNat_ofNat]; exact Nat.mod_eq_of_lt (by omega)
  show IntKind.u32.wrap ((BitVec.ofInt 32 (a : Int) ||| BitVec.ofInt 32 (b : Int)).toNat : Int) = _
  rw [BitVec.toNat_or, h1, h2]
  simp [IntKind.wrap, IntKind.bits, IntKind.signed]
  omega
theorem shl_or (x b : Nat) (hx : x < 16777216) (hb : b < 256) : bits .or .u32 ((x : Int) * 256) (b : Int) = ((x * 256 + b : Nat) : Int) := by
  rw [show (x : Int) * 256 = ((x * 256 : Nat) : Int) by omega, bits_or_u32_nat _ _ (by omega) (by omega)]
  congr 1
  have h := Nat.two_pow_add_eq_or_of_lt (i := 8) (b := b) (by omega) x
  rw [Nat.mul_comm x 256]
  exact h.symm
set_option maxRecDepth 100000 in
set_option maxHeartbeats 1600000 in
theorem take1_less (c : Nat) (l : List UInt8) (n : Nat) (w : World) (hc : Blk w c 9 #[.string (txt l)]) (hn : n ≤ 4) (hle : n ≤ l.length) :
   Calls Tryz.prog 42 #[.int .i64 (n : Int), .pointer (some ⟨c, 0, none⟩)] w fun e w' => e = .returned (.int .u32 ((valB (l.take (n)) : Nat) : Int)) ∧ Blk w' c 9 #[.string (txt (l.drop (n)))] ∧ But c w w' := by
  have hkl : n ≤ l.length := by omega
  have hk4 : n ≤ 4 := by omega
  have hlt := hc.lt
  have HX : Hid (Blk w c 9 #[.string (txt l)]) := hc
  have c0 : w.cell? ⟨c, 0, none⟩ = some (.string (txt l)) := hc.cell 0 rfl
  have f0 := hc.frozen 0
  have hsz : (txt l).size = l.length := txt_size l
  obtain ⟨R, hR⟩ : ∃ R, l.take (n) = R := ⟨_, rfl⟩
  obtain ⟨Z, hZ⟩ : ∃ Z, l.drop (n) = Z := ⟨_, rfl⟩
  have hlk : R.length = n := by rw [← hR, List.length_take]; omega
  have hex : (txt l).extract 0 (n) = txt R := by rw [extract_txt, ← hR]; rfl
  have hex2 : (txt l).extract (n) l.length = txt Z := by rw [extract_txt, List.take_of_length_le (by rw [List.length_drop]; exact Nat.le_refl _), hZ]
  have hcv := conv_bytes (txt R) w
  have htk : (txt R).size = n := by rw [txt_size, hlk]
  have BX := below_bytes w (txt R)
  have hcells : ∀ j, j < R.length → (Lib.bytesWorld w 5 (txt R)).cell? ⟨w.heap.size, j, none⟩ = some (.int .u8 ((R.getD j 0).toNat : Int)) := fun j hj => bytes_cell w R j hj
  rw [htk] at hcv
  rw [hR, hZ]
  obtain ⟨cp, hcp⟩ : ∃ cp, grownCap w (n) 0 5 = cp := ⟨_, rfl⟩
  rw [hcp] at hcv
  obtain ⟨wb, hwb⟩ : ∃ wb, Lib.bytesWorld w 5 (txt R) = wb := ⟨_, rfl⟩
  rw [hwb] at hcv BX hcells
  have HCE : Hid (∀ j, j < R.length → wb.cell? ⟨w.heap.size, j, none⟩ = some (.int .u8 ((R.getD j 0).toNat : Int))) := hcells
  have HB : Hid (Below w.heap.size w wb) := BX
  have HLK : Hid (R.length = n) := hlk
  have HZ : Hid (l.drop (n) = Z) := hZ
  clear hc hcp hwb hcells BX hR hZ hlk htk
  go_enter Tryz.func42, Tryz.ntmps42
  go_wp2
  clear hcv c0 f0 hex
  go_loopg [4, 16] (n) (fun r x s16 wr => ∃ j : Nat, j ≤ n ∧ r = n - j ∧ s16 = .int .i64 (j : Int) ∧ x = .int .u32 ((valB (R.take j) : Nat) : Int) ∧ wr = wb)
  case atStart => exact ⟨0, by omega, by omega, rfl, rfl, rfl⟩
  case round =>
    obtain ⟨j, hj, rfl, rfl, rfl, rfl⟩ := hrel
    by_cases hjk : j < n
    · have q1 := HCE.out j (by rw [HLK.out]; exact hjk)
      have HS : Hid (valB (R.take (j + 1)) = valB (R.take j) * 256 + (R.getD j 0).toNat) := by
        show _ = _
        rw [take_snocB (by rw [HLK.out]; exact hjk), valB_snoc]
      have hv : valB (R.take j) < 16777216 := by
        have h1 := valB_lt j (R.take j) (by rw [List.length_take, HLK.out]; omega)
        have h2 : 256 ^ j ≤ 256 ^ 3 := Nat.pow_le_pow_right (by omega) (by omega)
        omega
      have hb := (R.getD j 0).toNat_lt
      generalize (R.getD j 0).toNat = b at *
      generalize valB (R.take j) = x at *
      go_wp2
      go_roundg (n - (j + 1))
      case measure => omega
      case rel => exact ⟨j + 1, by omega, rfl, by go_num, by rw [HS.out, shl_or x b hv hb], rfl⟩
    · have hje : j = n := by omega
      have c0 : wr.cell? ⟨c, 0, none⟩ = some (.string (txt l)) := (HX.out.below HB.out).cell 0 rfl
      have f0 := (HX.out.below HB.out).frozen 0
      go_wp2
      go_ret
      refine ⟨?_, (HX.out.below HB.out).set 0 _, (But.of_below HB.out).trans ?_⟩
      · rw [← HLK.out] at hje
        rw [hje, List.take_length]
        rfl
      · exact ⟨rfl, rfl, rfl, by simp [World.setCell], fun k _ hk => Below.heap_setCell _ _ _ k hk⟩
set_option maxRecDepth 100000 in
set_option maxHeartbeats 1600000 in
theorem take1_over (c : Nat) (l : List UInt8) (n : Nat) (w : World) (hc : Blk w c 9 #[.string (txt l)]) (hn : n ≤ 4) (hle : l.length < n) :
   Calls Tryz.prog 42 #[.int .i64 (n : Int), .pointer (some ⟨c, 0, none⟩)] w fun e w' => e = .returned (.int .u32 ((valB (l.take (l.length)) : Nat) : Int)) ∧ Blk w' c 9 #[.string (txt (l.drop (l.length)))] ∧ But c w w' := by
  have hkl : l.length ≤ l.length := by omega
  have hk4 : l.length ≤ 4 := by omega
  have hlt := hc.lt
  have HX : Hid (Blk w c 9 #[.string (txt l)]) := hc
  have c0 : w.cell? ⟨c, 0, none⟩ = some (.string (txt l)) := hc.cell 0 rfl
  have f0 := hc.frozen 0
  have hsz : (txt l).size = l.length := txt_size l
  obtain ⟨R, hR⟩ : ∃ R, l.take (l.length) = R := ⟨_, rfl⟩
  obtain ⟨Z, hZ⟩ : ∃ Z, l.drop (l.length) = Z := ⟨_, rfl⟩
  have hlk : R.length = l.length := by rw [← hR, List.length_take]; omega
  have hex : (txt l).extract 0 (l.length) = txt R := by rw [extract_txt, ← hR]; rfl
  have hex2 : (txt l).extract (l.length) l.length = txt Z := by rw [extract_txt, List.take_of_length_le (by rw [List.length_drop]; exact Nat.le_refl _), hZ]
  have hcv := conv_bytes (txt R) w
  have htk : (txt R).size = l.length := by rw [txt_size, hlk]
  have BX := below_bytes w (txt R)
  have hcells : ∀ j, j < R.length → (Lib.bytesWorld w 5 (txt R)).cell? ⟨w.heap.size, j, none⟩ = some (.int .u8 ((R.getD j 0).toNat : Int)) := fun j hj => bytes_cell w R j hj
  rw [htk] at hcv
  rw [hR, hZ]
  obtain ⟨cp, hcp⟩ : ∃ cp, grownCap w (l.length) 0 5 = cp := ⟨_, rfl⟩
  rw [hcp] at hcv
  obtain ⟨wb, hwb⟩ : ∃ wb, Lib.bytesWorld w 5 (txt R) = wb := ⟨_, rfl⟩
  rw [hwb] at hcv BX hcells
  have HCE : Hid (∀ j, j < R.length → wb.cell? ⟨w.heap.size, j, none⟩ = some (.int .u8 ((R.getD j 0).toNat : Int))) := hcells
  have HB : Hid (Below w.heap.size w wb) := BX
  have HLK : Hid (R.length = l.length) := hlk
  have HZ : Hid (l.drop (l.length) = Z) := hZ
  clear hc hcp hwb hcells BX hR hZ hlk htk
  go_enter Tryz.func42, Tryz.ntmps42
  go_wp2
  clear hcv c0 f0 hex
  go_loopg [4, 16] (l.length) (fun r x s16 wr => ∃ j : Nat, j ≤ l.length ∧ r = l.length - j ∧ s16 = .int .i64 (j : Int) ∧ x = .int .u32 ((valB (R.take j) : Nat) : Int) ∧ wr = wb)
  case atStart => exact ⟨0, by omega, by omega, rfl, rfl, rfl⟩
  case round =>
    obtain ⟨j, hj, rfl, rfl, rfl, rfl⟩ := hrel
    by_cases hjk : j < l.length
    · have q1 := HCE.out j (by rw [HLK.out]; exact hjk)
      have HS : Hid (valB (R.take (j + 1)) = valB (R.take j) * 256 + (R.getD j 0).toNat) := by
        show _ = _
        rw [take_snocB (by rw [HLK.out]; exact hjk), valB_snoc]
      have hv : valB (R.take j) < 16777216 := by
        have h1 := valB_lt j (R.take j) (by rw [List.length_take, HLK.out]; omega)
        have h2 : 256 ^ j ≤ 256 ^ 3 := Nat.pow_le_pow_right (by omega) (by omega)
        omega
      have hb := (R.getD j 0).toNat_lt
      generalize (R.getD j 0).toNat = b at *
      generalize valB (R.take j) = x at *
      go_wp2
      go_roundg (l.length - (j + 1))
      case measure => omega
      case rel => exact ⟨j + 1, by omega, rfl, by go_num, by rw [HS.out, shl_or x b hv hb], rfl⟩
    · have hje : j = l.length := by omega
      have c0 : wr.cell? ⟨c, 0, none⟩ = some (.string (txt l)) := (HX.out.below HB.out).cell 0 rfl
      have f0 := (HX.out.below HB.out).frozen 0
      go_wp2
      go_ret
      refine ⟨?_, by
        rw [show txt Z = ByteArray.empty by rw [← HZ.out, List.drop_length]; rfl]
        exact (HX.out.below HB.out).set 0 _, (But.of_below HB.out).trans ?_⟩
      · rw [← HLK.out] at hje
        rw [hje, List.take_length]
        rfl
      · exact ⟨rfl, rfl, rfl, by simp [World.setCell], fun k _ hk => Below.heap_setCell _ _ _ k hk⟩
theorem take1_any (c : Nat) (l : List UInt8) (n : Nat) (w : World) (hc : Blk w c 9 #[.string (txt l)]) (hn : n ≤ 4) :
   Calls Tryz.prog 42 #[.int .i64 (n : Int), .pointer (some ⟨c, 0, none⟩)] w fun e w' => e = .returned (.int .u32 ((valB (l.take n) : Nat) : Int)) ∧ Blk w' c 9 #[.string (txt (l.drop n))] ∧ But c w w' := by
  rcases Nat.lt_or_ge l.length n with h | h
  · have := take1_over c l n w hc hn h
    rw [List.take_length, List.drop_length] at this
    rw [List.take_of_length_le (by omega), List.drop_eq_nil_of_le (by omega)]
    exact this
  · exact take1_less c l n w hc hn h
end Go.Proofs.YtcanjlofnpnhkaaGreatDoor

/- Package block: lists of numbers, as they are taken off a text: what stays. -/
namespace Go.Proofs.YtcanjlofnpnhkaaGreatDoor
open Go.ChangeShapes Go.WideShapes Go.ChangeAt Go.RowKit
/-- Blocks ahead of B stay, but for c. -/
structure Up (B c : Nat) (w w' : World) : Prop where
  os : w'.os = w.os
  tape : w'.tape = w.tape
  output : w'.output = w.output
  size : w.heap.size ≤ w'.heap.size
  block : ∀ b, b < B → b ≠ c → w'.heap[b]? = w.heap[b]?
theorem Up.refl (B c : Nat) (w : World) : Up B c w w := ⟨rfl, rfl, rfl, Nat.le_refl _, fun _ _ _ => rfl⟩
theorem Up.trans {B c : Nat} {w w1 w2 : World} (h : Up B c w w1) (k : Up B c w1 w2) : Up B c w w2 :=
  ⟨k.os.trans h.os, k.tape.trans h.tape, k.output.trans h.output, Nat.le_trans h.size k.size, fun b h1 h2 => (k.block b h1 h2).trans (h.block b h1 h2)⟩
theorem Up.mono {B B' c : Nat} {w w' : World} (h : Up B c w w') (hB : B' ≤ B) : Up B' c w w' := ⟨h.os, h.tape, h.output, h.size, fun b h1 h2 => h.block b (Nat.lt_of_lt_of_le h1 hB) h2⟩
theorem Up.of_but {B c : Nat} {w w' : World} (h : But c w w') (hB : B ≤ w.heap.size) : Up B c w w' := ⟨h.os, h.tape, h.output, h.size, fun b h1 h2 => h.block b (Nat.lt_of_lt_of_le h1 hB) h2⟩
theorem Up.of_below {B c : Nat} {w w' : World} (h : Below w.heap.size w w') (hB : B ≤ w.heap.size) : Up B c w w' := ⟨h.os, h.tape, h.output, h.size, fun b h1 _ => h.block b (Nat.lt_of_lt_of_le h1 hB)⟩
theorem Up.set {B c : Nat} {w w' : World} (h : Up B c w w') {g k : Nat} (hg : B ≤ g) (v : Value) : Up B c w (w'.setCell ⟨g, k, none⟩ v) :=
  ⟨h.os, h.tape, h.output, by simpa [World.setCell] using h.size, fun b h1 h2 => by rw [Below.heap_setCell _ _ _ b (by show b ≠ g; omega)]; exact h.block b h1 h2⟩
theorem Up.blk {B c g : Nat} {w w' : World} {T : TypeId} {cs : Array Value} (h : Blk w g T cs) (u : Up B c w w') (h1 : g < B) (h2 : g ≠ c) : Blk w' g T cs := h.of_block (u.block g h1 h2)
/-- A made list of rows; those ahead of place t are laid, each of dim numbers. -/
structure GF (w : World) (gB P t dim : Nat) (R : Nat → List Int) : Prop where
  row : ∃ cs : Array Value, w.heap[gB]? = some (.cells cs 35 (0, 0)) ∧ cs.size = P ∧ ∀ j, j < t → ∃ gR, cs[j]? = some (.slice (some ⟨gR, 0, none⟩) dim dim) ∧ gB < gR ∧ Fresh w gB gR dim dim (R j)
theorem GF.lt {w : World} {gB P t dim : Nat} {R : Nat → List Int} (h : GF w gB P t dim R) : gB < w.heap.size := by
  obtain ⟨cs, h1, _⟩ := h.row
  exact (Array.getElem?_eq_some_iff.1 h1).1
theorem GF.same {w w' : World} {gB P t dim : Nat} {R : Nat → List Int} (h : GF w gB P t dim R) (hs : ∀ b, gB ≤ b → b < w.heap.size → w'.heap[b]? = w.heap[b]?) : GF w' gB P t dim R := by
  have hl := h.lt
  obtain ⟨cs, h1, h2, h3⟩ := h.row
  exact ⟨cs, (hs gB (Nat.le_refl _) hl).trans h1, h2, fun j hj => let ⟨gR, e, q, F⟩ := h3 j hj; ⟨gR, e, q, F.of_block (hs gR (Nat.le_of_lt q) F.lt)⟩⟩
theorem GF.up {w w' : World} {gB P t dim B c : Nat} {R : Nat → List Int} (h : GF w gB P t dim R) (u : Up B c w w') (hB : w.heap.size ≤ B) (hc : c < gB) : GF w' gB P t dim R :=
  h.same fun b h1 h2 => u.block b (by omega) (by omega)
theorem GF.congr {w : World} {gB P t dim : Nat} {R R' : Nat → List Int} (h : GF w gB P t dim R) (e : ∀ j, j < t → R' j = R j) : GF w gB P t dim R' := by
  obtain ⟨cs, h1, h2, h3⟩ := h.row
  exact ⟨cs, h1, h2, fun j hj => by rw [e j hj]; exact h3 j hj⟩
theorem GF.cell {w : World} {gB P t dim k : Nat} {R : Nat → List Int} (h : GF w gB P t dim R) (hk : k < P) : (∃ u, w.cell? ⟨gB, k, none⟩ = some u) ∧ w.frozen? ⟨gB, k, none⟩ = false := by
  obtain ⟨cs, h1, h2, h3⟩ := h.row
  exact ⟨⟨cs[k]'(by omega), by simp [World.cell?, h1, Array.getElem?_eq_getElem (show k < cs.size by omega)]⟩, by simp [World.frozen?, h1]⟩
/-- One row more. -/
theorem GF.step {w : World} {gB P t dim gR : Nat} {R : Nat → List Int} (h : GF w gB P t dim R) (ht : t < P) (hg : gB < gR) (F : Fresh w gB gR dim dim (R t)) : GF (w.setCell ⟨gB, t, none⟩ (.slice (some ⟨gR, 0, none⟩) dim dim)) gB P (t + 1) dim R := by
  obtain ⟨cs, h1, h2, h3⟩ := h.row
  refine ⟨cs.setIfInBounds t (.slice (some ⟨gR, 0, none⟩) dim dim), by simp [World.setCell, Array.getElem?_modify, h1], by simpa using h2, fun j hj => ?_⟩
  by_cases hjt : j = t
  · subst hjt
    exact ⟨gR, by rw [Array.getElem?_setIfInBounds, if_pos rfl, if_pos (by omega)], hg, F.setOther (by show gR ≠ gB; omega) _⟩
  · obtain ⟨g, e, q, F2⟩ := h3 j (by omega)
    exact ⟨g, by rw [Array.getElem?_setIfInBounds, if_neg (fun e => hjt e.symm)]; exact e, q, F2.setOther (by show g ≠ gB; omega) _⟩
theorem gf_made (w : World) (P dim : Nat) (R : Nat → List Int) : GF (w.alloc (.cells (madeCells #[.slice none 0 0] P) 35)) w.heap.size P 0 dim R :=
  ⟨_, heap_alloc_new w _, by simp [madeCells], fun j hj => by omega⟩
theorem GF.grid {w : World} {gB P dim : Nat} {R : Nat → List Int} (h : GF w gB P P dim R) (hP : P ≤ 4096) : GridAt w (some ⟨gB, 0, none⟩) P ((List.range P).map R) := by
  refine ⟨by simp, by omega, fun _ => ⟨gB, 0, rfl, fun t ht => ?_⟩⟩
  obtain ⟨cs, h1, h2, h3⟩ := h.row
  obtain ⟨gR, e, q, F⟩ := h3 t ht
  have er : rowOf ((List.range P).map R) t = R t := by
    unfold rowOf
    rw [List.getD_eq_getElem?_getD, List.getElem?_map, List.getElem?_range ht]
    rfl
  refine ⟨some ⟨gR, 0, none⟩, dim, dim, by rw [Nat.zero_add]; simp [World.cell?, h1, e], ?_⟩
  rw [er]
  exact F.arg
/-- A made list of lists; those ahead of place i are laid. -/
structure OF (w : World) (gA m i P dim : Nat) (R : Nat → Nat → List Int) : Prop where
  row : ∃ cs : Array Value, w.heap[gA]? = some (.cells cs 105 (0, 0)) ∧ cs.size = m ∧ ∀ j, j < i → ∃ gB, cs[j]? = some (.slice (some ⟨gB, 0, none⟩) P P) ∧ gA < gB ∧ GF w gB P P dim (R j)
theorem OF.lt {w : World} {gA m i P dim : Nat} {R : Nat → Nat → List Int} (h : OF w gA m i P dim R) : gA < w.heap.size := by
  obtain ⟨cs, h1, _⟩ := h.row
  exact (Array.getElem?_eq_some_iff.1 h1).1
theorem OF.same {w w' : World} {gA m i P dim : Nat} {R : Nat → Nat → List Int} (h : OF w gA m i P dim R) (hs : ∀ b, gA ≤ b → b < w.heap.size → w'.heap[b]? = w.heap[b]?) : OF w' gA m i P dim R := by
  have hl := h.lt
  obtain ⟨cs, h1, h2, h3⟩ := h.row
  exact ⟨cs, (hs gA (Nat.le_refl _) hl).trans h1, h2, fun j hj => let ⟨gB, e, q, F⟩ := h3 j hj; ⟨gB, e, q, F.same fun b k1 k2 => hs b (by omega) k2⟩⟩
theorem OF.up {w w' : World} {gA m i P dim B c : Nat} {R : Nat → Nat → List Int} (h : OF w gA m i P dim R) (u : Up B c w w') (hB : w.heap.size ≤ B) (hc : c < gA) : OF w' gA m i P dim R :=
  h.same fun b h1 h2 => u.block b (by omega) (by omega)
theorem OF.cell {w : World} {gA m i P dim k : Nat} {R : Nat → Nat → List Int} (h : OF w gA m i P dim R) (hk : k < m) : (∃ u, w.cell? ⟨gA, k, none⟩ = some u) ∧ w.frozen? ⟨gA, k, none⟩ = false := by
  obtain ⟨cs, h1, h2, h3⟩ := h.row
  exact ⟨⟨cs[k]'(by omega), by simp [World.cell?, h1, Array.getElem?_eq_getElem (show k < cs.size by omega)]⟩, by simp [World.frozen?, h1]⟩
/-- The next place is set: the lists ahead of it stay. -/
theorem OF.set {w : World} {gA m i P dim : Nat} {R : Nat → Nat → List Int} (h : OF w gA m i P dim R) (hi : i < m) (v : Value) : OF (w.setCell ⟨gA, i, none⟩ v) gA m i P dim R ∧ (w.setCell ⟨gA, i, none⟩ v).cell? ⟨gA, i, none⟩ = some v := by
  obtain ⟨⟨u, hu⟩, _⟩ := h.cell hi
  refine ⟨?_, World.cell?_setCell_same _ _ _ hu⟩
  obtain ⟨cs, h1, h2, h3⟩ := h.row
  refine ⟨cs.setIfInBounds i v, by simp [World.setCell, Array.getElem?_modify, h1], by simpa using h2, fun j hj => ?_⟩
  obtain ⟨gB, e, q, F⟩ := h3 j hj
  exact ⟨gB, by rw [Array.getElem?_setIfInBounds, if_neg (by omega)]; exact e, q, F.same fun b k1 _ => Below.heap_setCell _ _ _ b (by show b ≠ gA; omega)⟩
theorem OF.next {w : World} {gA m i P dim gB : Nat} {R : Nat → Nat → List Int} (h : OF w gA m i P dim R) (hc : w.cell? ⟨gA, i, none⟩ = some (.slice (some ⟨gB, 0, none⟩) P P)) (hg : gA < gB) (G : GF w gB P P dim (R i)) : OF w gA m (i + 1) P dim R := by
  obtain ⟨cs, h1, h2, h3⟩ := h.row
  refine ⟨cs, h1, h2, fun j hj => ?_⟩
  by_cases hji : j = i
  · subst hji
    refine ⟨gB, ?_, hg, G⟩
    unfold World.cell? at hc
    simp only [h1] at hc
    simpa using hc
  · exact h3 j (by omega)
theorem of_made (w : World) (m P dim : Nat) (R : Nat → Nat → List Int) : OF (w.alloc (.cells (madeCells #[.slice none 0 0] m) 105)) w.heap.size m 0 P dim R :=
  ⟨_, heap_alloc_new w _, by simp [madeCells], fun j hj => by omega⟩
theorem OF.cube {w : World} {gA m P dim : Nat} {R : Nat → Nat → List Int} (h : OF w gA m m P dim R) (hm : m ≤ 4096) (hP : P ≤ 4096) : CubeAt w (some ⟨gA, 0, none⟩) m ((List.range m).map fun i => (List.range P).map (R i)) := by
  refine ⟨by simp, by omega, fun _ => ⟨gA, 0, rfl, fun t X hX => ?_⟩⟩
  have ht : t < m := by have := (List.getElem?_eq_some_iff.1 hX).1; simpa using this
  rw [List.getElem?_map, List.getElem?_range ht] at hX
  simp only [Option.map_some, Option.some.injEq] at hX
  subst hX
  obtain ⟨cs, h1, h2, h3⟩ := h.row
  obtain ⟨gB, e, q, G⟩ := h3 t ht
  exact ⟨some ⟨gB, 0, none⟩, P, P, by rw [Nat.zero_add]; simp [World.cell?, h1, e], (fun h => by cases h), Nat.le_refl _, by omega, G.grid hP⟩
theorem OF.new {w : World} {gA m P dim s : Nat} {R : Nat → Nat → List Int} (h : OF w gA m m P dim R) (hs : s ≤ gA) (hm : m ≤ 4096) (hP : P ≤ 4096) : Hangs (fun b => s ≤ b) w (fun w => CubeAt w (some ⟨gA, 0, none⟩) m ((List.range m).map fun i => (List.range P).map (R i))) :=
  fun _ h2 => (h.same fun b k1 k2 => h2 b (Nat.le_trans hs k1) k2).cube hm hP
/-- Numbers, as they are taken. -/
def toI (n : Nat) : Int := IntKind.i32.wrap (n : Int)
theorem toI_small (n : Nat) : -2147483648 ≤ toI n ∧ toI n ≤ 2147483647 := by
  unfold toI
  simp [IntKind.wrap, IntKind.bits, IntKind.signed]
  omega
def numAt (l : List UInt8) (k : Nat) : Int := toI (valB ((l.drop (4 * k)).take 4))
def rowT (l : List UInt8) (dim k0 : Nat) : List Int := tab dim fun j => numAt l (k0 + j)
def cubeT (l : List UInt8) (layers places dim : Nat) : List (List (List Int)) := (List.range layers).map fun i => (List.range places).map fun t => rowT l dim (i * (places * dim) + t * dim)
end Go.Proofs.YtcanjlofnpnhkaaGreatDoor
