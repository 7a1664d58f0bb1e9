/- Contracts of the program's functions, part 6 of 19: what each call returns and leaves of memory. -/
import Derived.Test.YtmdjlaileakbeaaGreatDoorPk2
import Derived.Test.YtmdjlaileakbeaaGreatDoorPk5
import Derived.Deep.RegionHeld3
/- append onto a row of the call's own: the row stays in its block, or goes into a new one; all other blocks stay. -/
namespace Go.Proofs.YtmdjlaileakbeaaGreatDoor
open Go.ChangeShapes Go.WideShapes Go.ChangeAt Go.RowKit
section
variable {P : Program} (w : World)
theorem run_append_own2 (base : Nat) (t ty e : TypeId) (i : TypeInfo) (z : Value) (size bytes : Nat) (ht : P.underlying t = some (.slice e)) (hi : P.info? e = some i) (hz : i.zero = some z)
    (hsize : i.size = size) (hby : i.bytes = bytes) (hzs : z.cells.size = size) (hsz : 0 < size)
    (v : Value) (n : Nat) (xs : List Value) (hown : w.ownsRow base e size v n xs)
    (a : Addr) (m c : Nat) (news : List Value) (hl : news.length = m * size) (hnews : ∀ j u, news[j]? = some u → w.cell? (a.add j) = some u) (h1 : ∀ u ∈ news, u.oneCell' = true)
    (h63 : n + m ≤ maxLen) (hbytes : (n + m) * bytes ≤ 140737488355328) (hbase : base ≤ w.heap.size) :
    ∃ v' w', (Builtin.append_ #[t, t] ty #[v, .slice (some a) m c]).run P w = .ok v' w' ∧ w'.ownsRow base e size v' (n + m) (xs ++ news) ∧ w.grownBy w' v.ownBlock ∧
      (v' = .slice none 0 0 ↔ v = .slice none 0 0 ∧ m = 0) ∧ ∀ g', v'.ownBlock = some g' → v.ownBlock = some g' ∨ g' = w.heap.size := by
  obtain ⟨v', w', hr, h2, h3, h4⟩ := run_append_own (P := P) w base t ty e i z size bytes ht hi hz hsize hby hzs hsz v n xs hown a m c news hl hnews h1 h63 hbytes hbase
  refine ⟨v', w', hr, h2, h3, h4, ?_⟩
  subst hsize
  subst hby
  have hsmall : n + m ≤ 9223372036854775807 := by simp only [maxLen] at h63; omega
  rcases hown.2 with ⟨rfl, rfl⟩ | ⟨g, cap, cur, rfl, hbg, hg, hnc, hcm, hcs, htake⟩
  · by_cases hm : m = 0
    · have := h4.2 ⟨rfl, hm⟩
      subst this
      intro g' hg'
      cases hg'
    · have hr2 := run_append_nil (P := P) w t ty e i z ht hi hz a m c news hl hnews (by omega) (by omega) (by have hb := hbytes; simp only [Nat.zero_add] at hb; omega)
      rw [hr] at hr2
      injection hr2 with e1 e2
      subst e1
      intro g' hg'
      exact Or.inr (Option.some.inj hg').symm
  · by_cases hroom : n + m ≤ cap
    · have hfit : n * i.size + news.length ≤ cur.size := by rw [hl, hcs, ← Nat.add_mul]; exact Nat.mul_le_mul_right _ hroom
      have hr2 := run_append_room (P := P) w t ty e i ht hi g n cap cur hg a m c news hl hnews h1 hroom hfit
      rw [hr] at hr2
      injection hr2 with e1 e2
      subst e1
      intro g' hg'
      exact Or.inl hg'
    · have holds : ∀ j u, xs[j]? = some u → w.cell? ((⟨g, 0, none⟩ : Addr).add j) = some u := hown.cells (g := g) rfl
      have hr2 := run_append_grow (P := P) w t ty e i z ht hi hz ⟨g, 0, none⟩ n cap xs hown.1 holds a m c news hl hnews (by omega) (by omega) (growslice_fits (by omega) hbytes)
      rw [hr] at hr2
      injection hr2 with e1 e2
      subst e1
      intro g' hg'
      exact Or.inr (Option.some.inj hg').symm
theorem wp_append_own2 {o : Oper} {a : Act} {K : Act → World → Prop} {Q : Exit → Act → World → Prop} (s x : Operand) (t : TypeId)
    (ho : o.op = .call { callee := .builtin .append, args := #[s, x], argTypes := #[t, t] })
    (base : Nat) (e : TypeId) (i : TypeInfo) (z : Value) (size bytes : Nat) (ht : P.underlying t = some (.slice e)) (hi : P.info? e = some i) (hz : i.zero = some z)
    (hsize : i.size = size) (hby : i.bytes = bytes) (hzs : z.cells.size = size) (hsz : 0 < size)
    (v : Value) (n : Nat) (xs : List Value) (hs : a.eval s = v) (hown : w.ownsRow base e size v n xs)
    (ad : Addr) (m c : Nat) (news : List Value) (hx : a.eval x = .slice (some ad) m c) (hl : news.length = m * size) (hnews : ∀ j u, news[j]? = some u → w.cell? (ad.add j) = some u) (h1 : ∀ u ∈ news, u.oneCell' = true)
    (h63 : n + m ≤ maxLen) (hbytes : (n + m) * bytes ≤ 140737488355328) (hbase : base ≤ w.heap.size)
    (h : ∀ v' w', w'.ownsRow base e size v' (n + m) (xs ++ news) → w.grownBy w' v.ownBlock → (v' = .slice none 0 0 ↔ v = .slice none 0 0 ∧ m = 0) → (∀ g', v'.ownBlock = some g' → v.ownBlock = some g' ∨ g' = w.heap.size) → K (a.put o.dst v') w') : o.wp P a w K Q := by
  obtain ⟨v', w', hr, h2, h3, h4, h5⟩ := run_append_own2 (P := P) w base t o.type e i z size bytes ht hi hz hsize hby hzs hsz v n xs hown ad m c news hl hnews h1 h63 hbytes hbase
  unfold Oper.wp execOp
  simp only [ho, resolve, invoke, builtin, Sem.run_bind, Sem.run_pure, Result.andThen_ok, List.map_toArray, List.map_cons, List.map_nil, hs, hx, hr]
  exact h v' w' h2 h3 h4 h5
end
/-- append(out, x), out a row of the call's own, x one number: all other blocks stay. -/
theorem wpList_append_one2 {w : World} {ops : Array Oper} {rest : List Oper} {o : Oper} {a : Act} {Q : Exit → Act → World → Prop} (hgd : o.guard = none) (s x : Operand)
    (ho : o.op = .call { callee := .builtin .append, args := #[s, x], argTypes := #[24, 24] })
    (B g n cap : Nat) (A : List Int) (hs : a.eval s = .slice (some ⟨g, 0, none⟩) n cap) (hF : Fresh w B g n cap A)
    (bo : Nat) (y : Int) (hx : a.eval x = .slice (some ⟨bo, 0, none⟩) 1 1) (hX : RowAt w (some ⟨bo, 0, none⟩) 1 [y])
    (hlen : n + 1 ≤ 1048576) (hB : B ≤ w.heap.size)
    (h : ∀ g' cap' w', Fresh w' B g' (n + 1) cap' (A ++ [y]) → Below B w w' → (∀ b, b < w.heap.size → b ≠ g → w'.heap[b]? = w.heap[b]?) → (g' = g ∨ g' = w.heap.size) → wpList Tryz.prog ops Q rest (a.put o.dst (.slice (some ⟨g', 0, none⟩) (n + 1) cap')) w') : wpList Tryz.prog ops Q (o :: rest) a w := by
  obtain ⟨i0, hi, hz0, hz1, hz2⟩ := info_parts Tryz.infoNum
  refine wpList_plain hgd fun _ hK => wp_append_own2 w s x 24 ho B 83 i0 (.int .i32 0) 1 4 Tryz.underlying24 hi hz0 hz1 hz2 rfl (by decide) _ n _ hs hF.owns ⟨bo, 0, none⟩ 1 1 [.int .i32 y] hx rfl ?_ (ints_oneCell .i32 [y]) (by unfold maxLen; omega) (by omega) hB ?_
  · intro j u hj
    obtain ⟨b, o', e, hcell⟩ := hX.cells (by omega)
    simp only [Option.some.injEq, Addr.mk.injEq, and_true] at e
    obtain ⟨rfl, rfl⟩ := e
    match j, hj with
    | 0, hj =>
      have h0 := hcell 0 (by omega)
      simp at hj
      subst hj
      have e2 : (Addr.mk bo 0 none).add 0 = ⟨bo, 0 + 0, none⟩ := by simp [Addr.add]
      rw [e2, h0]
      rfl
  · intro v' w' hown hg hnil hwh
    have hb : Below B w w' := (Below.refl _ _).grown hg hB (fun k hk => by simp [Value.ownBlock] at hk; subst hk; exact hF.base)
    obtain ⟨h1, h2⟩ := hown
    rcases h2 with ⟨h3, h4⟩ | ⟨g', c', cur, hv, hr⟩
    · omega
    · subst hv
      have e : A.map (Value.int .i32) ++ [.int .i32 y] = (A ++ [y]).map (Value.int .i32) := by simp
      rw [e] at h1 hr
      obtain ⟨g2, e2, F⟩ := fresh_of_owns (w := w') (B := B) (n := n + 1) (cap := c') (ao := some ⟨g', 0, none⟩) (A := A ++ [y]) ⟨h1, Or.inr ⟨g', c', cur, rfl, hr⟩⟩ (hF.small.append hX.small) (by simp)
      simp only [Option.some.injEq, Addr.mk.injEq, and_true] at e2
      subst e2
      refine hK _ _ (h g' c' w' F hb (fun b hb2 hne => hg.block b hb2 (fun e => hne (Option.some.inj e))) ?_)
      rcases hwh g' rfl with hq | hq
      · exact Or.inl (Option.some.inj hq).symm
      · exact Or.inr hq
end Go.Proofs.YtmdjlaileakbeaaGreatDoor

/- The document's layer 8: plus, and the row of a token at a place. -/
namespace Go.Proofs.YtmdjlaileakbeaaGreatDoor
open Go.ChangeShapes Go.WideShapes Go.ChangeAt Go.RowKit
theorem w64_in {x : Int} (h : -9223372036854775808 ≤ x ∧ x ≤ 9223372036854775807) : IntKind.i64.wrap x = x := by
  rw [IntKind.wrap_i64]; omega
set_option maxRecDepth 100000 in
set_option maxHeartbeats 1600000 in
theorem rplus_any (ao bo : Option Addr) (n ca cb : Nat) (A B : List Int) (w : World) (hA : RowAt w ao n A) (hB : RowAt w bo n B) (h5 : n ≤ 5000) :
   Calls Tryz.prog 50 #[.slice ao n ca, .slice bo n cb] w fun e w' => ∃ g cap, e = .returned (.slice (some ⟨g, 0, none⟩) n cap) ∧ Fresh w' w.heap.size g n cap (plusR A B n) ∧ Below w.heap.size w w' := by
  have F0 := fresh_empty w
  have B0 : Below w.heap.size w (w.alloc (.cells #[] 83)) := (Below.refl _ _).alloc (Nat.le_refl _) _
  unfold plusR
  go_enter Tryz.func50, Tryz.ntmps50
  go_wp2_with fail
  generalize w.alloc (.cells #[] 83) = w1 at *
  go_loopg [5, 10] n (fun r s i wr => ∃ (k g cap : Nat), k ≤ n ∧ r = n - k ∧ i = .int .i64 k ∧ s = .slice (some ⟨g, 0, none⟩) k cap ∧ Fresh wr w.heap.size g k cap (tab k fun j => addN (el A j) (el B j)) ∧ Below w.heap.size w wr)
  case atStart => exact ⟨0, _, _, by omega, by omega, rfl, rfl, F0, B0⟩
  case round =>
    obtain ⟨k, g, cap, hk, rfl, rfl, rfl, F2, B2⟩ := hrel
    clear F0 B0
    by_cases hlt : k < n
    · obtain ⟨b, o, rfl, hc⟩ := (hA.below B2).cells (by omega)
      obtain ⟨b', o', rfl, hc'⟩ := (hB.below B2).cells (by omega)
      have a1 := hA.small.el k
      have a2 := hB.small.el k
      have c1 := hc k hlt
      have c2 := hc' k hlt
      have O1 := F2.owns
      have s2 := B2.size
      have HS : Hid (tab (k + 1) (fun j => addN (el A j) (el B j)) = tab k (fun j => addN (el A j) (el B j)) ++ [addN (el A k) (el B k)]) := tab_snoc1 k _
      have m1 := addN_bd (el A k) (el B k)
      have HM1 : Hid (sat (el A k + el B k) = addN (el A k) (el B k)) := rfl
      generalize addN (el A k) (el B k) = x at *
      generalize el A k = xa at *
      generalize el B k = xb at *
      have wa : IntKind.i64.wrap xa = xa := w64_in (by omega)
      have wb : IntKind.i64.wrap xb = xb := w64_in (by omega)
      have wab : IntKind.i64.wrap (xa + xb) = xa + xb := w64_in (by omega)
      clear hA hB hc hc' F2
      go_wp2_with fail
      go_region_law (first
        | (refine step_append_one rfl (.tmp 13) (.tmp 26) rfl w.heap.size _ k cap (tab k fun j => addN (el A j) (el B j)) (by first | rfl | simp [Act.eval, Act.put]) (by exact OO) w12.heap.size x (by first | rfl | simp [Act.eval, Act.put]) (by exact RR) (by omega) (by exact ss) ?_; intro g' cap' w13 O13 B13 hg13)
        | (go_simp; go_at_call 68; refine (refSat_any _ _ (by omega) (by omega)).mono ?_; rintro e w12 ⟨rfl, hw12⟩; rw [HM1.out]; have B12 : Below wr.heap.size wr w12 := (by subst hw12; exact (Below.refl _ _).drew); clear hw12; have BL : Below w12.heap.size w12 (w12.alloc (.cells #[.int .i32 x] 83)) := (Below.refl _ _).alloc (Nat.le_refl _) _; have BA := below_then B12 BL; have OO := owns_below O1 BA; have RR := rowAt_one w12 x (by omega); have ss : w.heap.size ≤ (w12.alloc (.cells #[.int .i32 x] 83)).heap.size := by have := BA.size; omega))
      all_goals
        go_wp2
        go_roundg (n - (k + 1))
        case measure => omega
        case rel =>
          obtain ⟨g9, e9, F9⟩ := fresh_of_owns O13 (by rw [← HS.out]; exact small_tab fun q _ => by have := addN_bd (el A q) (el B q); omega) (by simp)
          simp only [Option.some.injEq, Addr.mk.injEq, and_true] at e9
          subst e9
          exact ⟨k + 1, _, _, by omega, rfl, by go_num, rfl, by rw [HS.out]; exact F9, (below_then B2 BA).trans B13⟩
    · obtain rfl : k = n := by omega
      go_wp2
      go_ret
      exact ⟨_, _, rfl, F2, B2⟩
set_option maxRecDepth 100000 in
set_option maxHeartbeats 1600000 in
theorem rbeg_any (V D H : Nat) (W : Wt) (bs : List Bk) (M : Mdl) (tok at' : Nat) (w : World) (hW : WtAt w V D H W bs M) (ht : tok < V) (ha : at' ≤ 4096) :
   Calls Tryz.prog 47 #[.agg W.cells, .int .i64 tok, .int .i64 at'] w fun e w' => ∃ g cap, e = .returned (.slice (some ⟨g, 0, none⟩) D cap) ∧ Fresh w' w.heap.size g D cap (begR M.E D tok at') ∧ Below w.heap.size w w' := by
  obtain ⟨⟨er, ec, ed⟩, ⟨ba, bn, bz⟩, ⟨la, ln, lz⟩, ⟨or, oc, ⟨oa, on, oz⟩⟩⟩ := W
  obtain ⟨eb, eo, en, ez, e1, ME⟩ := hW.e
  simp only [Mt.mk.injEq] at e1
  obtain ⟨rfl, rfl, rfl⟩ := e1
  have d2 := ME.c2
  have X0 := blk_new w 38 #[.int .i64 (V : Int), .int .i64 (D : Int), .slice (some ⟨eb, eo, none⟩) en ez, .slice ba bn bz, .slice la ln lz, .int .i64 or, .int .i64 oc, .slice oa on oz]
  have B0 : Below w.heap.size w (w.alloc (.cells #[.int .i64 (V : Int), .int .i64 (D : Int), .slice (some ⟨eb, eo, none⟩) en ez, .slice ba bn bz, .slice la ln lz, .int .i64 or, .int .i64 oc, .slice oa on oz] 38)) := (Below.refl _ _).alloc (Nat.le_refl _) _
  generalize hw0 : w.alloc (.cells #[.int .i64 (V : Int), .int .i64 (D : Int), .slice (some ⟨eb, eo, none⟩) en ez, .slice ba bn bz, .slice la ln lz, .int .i64 or, .int .i64 oc, .slice oa on oz] 38) = w0 at *
  have B1 : Below w0.heap.size w0 (w0.alloc (.cells #[] 83)) := (Below.refl _ _).alloc (Nat.le_refl _) _
  have F1 := fresh_empty w0
  generalize hw1 : w0.alloc (.cells #[] 83) = w1 at *
  have X1 := X0.below B1
  have D1 := below_then B0 B1
  have x0 : w1.cell? ⟨w.heap.size, 0, none⟩ = some (.int .i64 (V : Int)) := X1.cell 0 rfl
  have x1 : w1.cell? ⟨w.heap.size, 1, none⟩ = some (.int .i64 (D : Int)) := X1.cell 1 rfl
  have x2 : w1.cell? ⟨w.heap.size, 2, none⟩ = some (.slice (some ⟨eb, eo, none⟩) en ez) := X1.cell 2 rfl
  have RW := refRow_any V D eb eo en ez M.E tok w1 (ME.below D1) ht
  have s0 := B0.size
  have s1 := B1.size
  have hlt1 := F1.lt
  unfold matV at RW
  show Calls Tryz.prog 47 #[.agg #[.int .i64 (V : Int), .int .i64 (D : Int), .slice (some ⟨eb, eo, none⟩) en ez, .slice ba bn bz, .slice la ln lz, .int .i64 or, .int .i64 oc, .slice oa on oz], .int .i64 (tok : Int), .int .i64 (at' : Int)] w _
  unfold begR
  go_enter Tryz.func47, Tryz.ntmps47
  go_wp2_with (go_at_call 67; refine RW.mono ?_; rintro e w2 ⟨rg, rc, rfl, FR, B2⟩)
  replace F1 := (F1.below B2).mono s0
  have D2 := below_then D1 B2
  have hne : w0.heap.size ≠ rg := by have := FR.base; have := hlt1; omega
  replace FR := FR.mono (show w.heap.size ≤ w1.heap.size by omega)
  have a1 := fun k => FR.small.el k
  clear x0 x1 x2 X0 X1 B0 B1 B2 hw0 hw1 D1 RW hW ME
  obtain ⟨A, hA⟩ : ∃ A, A = rowN M.E D tok := ⟨_, rfl⟩
  have HA : Hid (A = rowN M.E D tok) := hA
  rw [← hA] at FR a1
  clear hA
  go_loopg [7, 16] D (fun r s i wr => ∃ (k g cap : Nat), k ≤ D ∧ r = D - k ∧ i = .int .i64 k ∧ s = .slice (some ⟨g, 0, none⟩) k cap ∧ g ≠ rg ∧ Fresh wr w.heap.size g k cap (tab k fun j => addN (el A j) (atN at' j)) ∧ Fresh wr w.heap.size rg D rc A ∧ Below w.heap.size w wr)
  case atStart => exact ⟨0, _, _, by omega, by omega, rfl, rfl, hne, F1, FR, D2⟩
  case round =>
    obtain ⟨k, g, cap, hk, rfl, rfl, rfl, hg, F3, FR, B3⟩ := hrel
    clear F1
    by_cases hlt : k < D
    · have c1 := FR.cell hlt
      have bx := a1 k
      have HS : Hid (tab (k + 1) (fun j => addN (el A j) (atN at' j)) = tab k (fun j => addN (el A j) (atN at' j)) ++ [addN (el A k) (atN at' k)]) := tab_snoc1 k _
      have m1 := addN_bd (el A k) (atN at' k)
      have hm3 : (k : Int).tmod 3 = ((k % 3 : Nat) : Int) := by rw [Int.tmod_eq_emod_of_nonneg (by omega)]; omega
      have hm4 : k % 3 < 3 := Nat.mod_lt _ (by decide)
      have hat : Hid (sat ((at' : Int) * ((k % 3 : Nat) : Int) * 4096) = atN at' k) := rfl
      have hab : -2147483647 ≤ atN at' k ∧ atN at' k ≤ 2147483647 := sat_bd _
      have hmu : 0 ≤ (at' : Int) * ((k % 3 : Nat) : Int) ∧ (at' : Int) * ((k % 3 : Nat) : Int) ≤ 8192 := by
        obtain h | h | h : k % 3 = 0 ∨ k % 3 = 1 ∨ k % 3 = 2 := by omega
        all_goals (rw [h]; omega)
      have HAD : Hid (sat (el A k + atN at' k) = addN (el A k) (atN at' k)) := rfl
      generalize addN (el A k) (atN at' k) = x at *
      generalize atN at' k = y at *
      generalize el A k = z at *
      generalize hk3 : ((k % 3 : Nat) : Int) = k3 at *
      generalize hpq : (at' : Int) * k3 = pq at *
      have s3 := B3.size
      have hrl := FR.lt
      have R := rowAt_one wr x (by omega)
      have BA : Below wr.heap.size wr (wr.alloc (.cells #[.int .i32 x] 83)) := (Below.refl _ _).alloc (Nat.le_refl _) _
      generalize hw3 : wr.alloc (.cells #[.int .i32 x] 83) = w3 at R BA
      replace F3 := F3.below BA
      replace FR := FR.below BA
      have s4 := BA.size
      have hrl2 := FR.lt
      replace BA := below_then B3 BA
      go_wp2_with (first
        | (go_at_call_of 68 y; refine (refSat_any _ _ (by omega) (by omega)).mono ?_; rintro e wr ⟨rfl, rfl⟩; rw [HAD.out])
        | (go_at_call 68; refine (refSat_any _ _ (by omega) (by omega)).mono ?_; rintro e wr ⟨rfl, rfl⟩; rw [hat.out])
        | (at_builtin; refine wpList_append_one2 rfl _ _ rfl w.heap.size g k cap _ rfl (by exact F3) wr.heap.size _ rfl (by exact R) (by omega) (by omega) ?_; intro g' cap' w' F6 B6 K6 N6))
      go_roundg (D - (k + 1))
      case measure => omega
      case rel => exact ⟨k + 1, _, _, by omega, rfl, by go_num, rfl, by omega, by rw [HS.out]; exact F6, FR.of_block (K6 rg hrl2 (Ne.symm hg)), BA.trans B6⟩
    · obtain rfl : k = D := by omega
      go_wp2
      go_ret
      exact ⟨_, _, rfl, by rw [← HA.out]; exact F3, B3⟩
end Go.Proofs.YtmdjlaileakbeaaGreatDoor

/- Rows of whole numbers in memory; what hangs on new blocks alone. -/
namespace Go.Proofs.YtmdjlaileakbeaaGreatDoor
open Go.ChangeShapes Go.WideShapes Go.ChangeAt Go.RowKit
/-- In w the slice of whole numbers that begins at ao reads as A. -/
structure IRowAt (w : World) (ao : Option Addr) (n : Nat) (A : List Int) : Prop where
  len : A.length = n
  max : n ≤ 9223372036854775807
  small : ∀ k, -9223372036854775808 ≤ el A k ∧ el A k ≤ 9223372036854775807
  cells : 0 < n → ∃ b o, ao = some ⟨b, o, none⟩ ∧ ∀ t, t < n → w.cell? ⟨b, o + t, none⟩ = some (.int .i64 (el A t))
structure IArg (w : World) (ao : Option Addr) (n ca : Nat) (A : List Int) : Prop where
  row : IRowAt w ao n A
  fit : n ≤ ca
  max : ca ≤ 9223372036854775807
  nil : ao = none → ca = 0
theorem IRowAt.below {w w' : World} {ao : Option Addr} {n : Nat} {A : List Int} (h : IRowAt w ao n A) (hb : Below w.heap.size w w') : IRowAt w' ao n A := by
  refine ⟨h.len, h.max, h.small, fun hn => ?_⟩
  obtain ⟨b, o, e, hc⟩ := h.cells hn
  refine ⟨b, o, e, fun t ht => ?_⟩
  have h1 := hc t ht
  have hlt : b < w.heap.size := by simpa using World.block_lt_of_cell? w _ h1
  rw [hb.cell (by exact hlt)]
  exact h1
theorem IArg.below {w w' : World} {ao : Option Addr} {n ca : Nat} {A : List Int} (h : IArg w ao n ca A) (hb : Below w.heap.size w w') : IArg w' ao n ca A := ⟨h.row.below hb, h.fit, h.max, h.nil⟩
theorem iarg_nil (w : World) : IArg w none 0 0 [] := ⟨⟨rfl, by omega, fun k => by simp [el], fun h => by omega⟩, by omega, by omega, fun _ => rfl⟩
theorem IRowAt.vals {w : World} {ad : Addr} {n : Nat} {A : List Int} (h : IRowAt w (some ad) n A) : ∀ j u, (A.map (Value.int .i64))[j]? = some u → w.cell? (ad.add j) = some u := by
  intro j u hj
  have hl := h.len
  have hjm : j < n := by
    have := (List.getElem?_eq_some_iff.1 hj).1
    simpa [hl] using this
  obtain ⟨b, o', e, hcell⟩ := h.cells (by omega)
  simp only [Option.some.injEq] at e
  subst e
  have e2 : (Addr.mk b o' none).add j = ⟨b, o' + j, none⟩ := by simp [Addr.add]
  rw [e2, hcell j hjm]
  rw [List.getElem?_map, List.getElem?_eq_getElem (show j < A.length by omega)] at hj
  simp only [Option.map_some, Option.some.injEq] at hj
  rw [← hj]
  unfold el
  simp [List.getD_eq_getElem?_getD, List.getElem?_eq_getElem (show j < A.length by omega)]
/-- A row of whole numbers of the call's own. -/
def IOwn (w : World) (B : Nat) (v : Value) (n : Nat) (A : List Int) : Prop := w.ownsRow B 3 1 v n (A.map (Value.int .i64))
theorem Tryz.infoInt : (Tryz.prog.info? 3).map (fun i => (i.zero, i.size, i.bytes)) = some (some (.int .i64 0), 1, 8) := by kernel_rfl
theorem IOwn.arg {w : World} {B : Nat} {v : Value} {n : Nat} {A : List Int} (h : IOwn w B v n A) (hs : ∀ k, -9223372036854775808 ≤ el A k ∧ el A k ≤ 9223372036854775807) : ∃ ao c, v = .slice ao n c ∧ IArg w ao n c A := by
  have hl : A.length = n := by have := h.1; simpa using this
  rcases h.2 with ⟨h3, h4⟩ | ⟨g, cap, cur, hv, hg, hh, h5, h6, h7, h8⟩
  · subst h4
    obtain rfl : A = [] := List.length_eq_zero_iff.1 hl
    exact ⟨none, 0, h3, iarg_nil w⟩
  · subst hv
    have hm : cap ≤ 9223372036854775807 := by simpa [maxLen] using h6
    refine ⟨_, _, rfl, ⟨hl, by omega, hs, fun hn => ⟨g, 0, rfl, fun t ht => ?_⟩⟩, h5, hm, fun h => by cases h⟩
    have hc := World.ownsRow.cells h (g := g) rfl t (.int .i64 (el A t)) (by
      rw [List.getElem?_map, List.getElem?_eq_getElem (show t < A.length by omega)]
      unfold el
      simp [List.getD_eq_getElem?_getD, List.getElem?_eq_getElem (show t < A.length by omega)])
    have e2 : (Addr.mk g 0 none).add t = ⟨g, t, none⟩ := by simp [Addr.add]; intro h; exact h.symm
    rw [e2] at hc
    rw [Nat.zero_add]
    exact hc
theorem iclone_any (ao : Option Addr) (n ca : Nat) (A : List Int) (w : World) (hA : IArg w ao n ca A) (hn : n ≤ 1048576) :
   Calls Tryz.prog 54 #[.slice ao n ca] w fun e w' => ∃ v, e = .returned v ∧ IOwn w' w.heap.size v n A ∧ Below w.heap.size w w' := by
  cases ao with
  | none =>
    have hc0 := hA.nil rfl
    subst hc0
    obtain rfl : n = 0 := by have := hA.fit; omega
    obtain rfl : A = [] := List.length_eq_zero_iff.1 hA.row.len
    have hq : ∀ w : World, (binOp .eql 30 (.slice none 0 0) (.slice none 0 0)).run Tryz.prog w = .ok (.bool true) w := fun w => run_eql_nil w _ 3 _ _ _ Tryz.underlying30
    go_enter Tryz.func54, Tryz.ntmps54
    go_wp2
    go_ret
    exact ⟨_, rfl, World.ownsRow_nil _ _ _ _, Below.refl _ _⟩
  | some ad =>
    obtain ⟨i0, hi, hz0, hz1, hz2⟩ := info_parts Tryz.infoInt
    have B0 : Below w.heap.size w (w.alloc (.cells #[] 3)) := (Below.refl _ _).alloc (Nat.le_refl _) _
    have O0 : (w.alloc (.cells #[] 3)).ownsRow w.heap.size 3 1 (.slice (some ⟨w.heap.size, 0, none⟩) 0 0) 0 [] := World.ownsRow_made w #[] 0 (Nat.le_refl _) (by decide) rfl
    have hv2 := (hA.row.below B0).vals
    have hl := hA.row.len
    have hq : ∀ w : World, (binOp .eql 30 (.slice (some ad) n ca) (.slice none 0 0)).run Tryz.prog w = .ok (.bool false) w := fun w => run_eql_nil w _ 3 _ _ _ Tryz.underlying30
    go_enter Tryz.func54, Tryz.ntmps54
    go_wp2_with (at_builtin; refine wpList_append_own _ rfl _ _ 30 rfl w.heap.size 3 i0 (.int .i64 0) 1 8 Tryz.underlying30 hi hz0 hz1 hz2 rfl (by decide) _ 0 [] rfl O0 ad n ca (A.map (Value.int .i64)) rfl (by simp [hl]) hv2 (ints_oneCell _ _) (by unfold maxLen; omega) (by omega) (by simp) ?_; intro v' w' O1 G1 N1)
    have hb : Below w.heap.size (w.alloc (.cells #[] 3)) w' := (Below.refl _ _).grown G1 (by simp) (fun k hk => (O0.lt k hk).1)
    rw [Nat.zero_add, List.nil_append] at O1
    go_ret
    exact ⟨v', rfl, O1, B0.trans hb⟩
/-- Φ hangs on those blocks alone that p tells. -/
def Hangs (p : Nat → Prop) (w : World) (Φ : World → Prop) : Prop := ∀ w2 : World, (∀ b, p b → b < w.heap.size → w2.heap[b]? = w.heap[b]?) → Φ w2
theorem Hangs.now {p : Nat → Prop} {w : World} {Φ : World → Prop} (h : Hangs p w Φ) : Φ w := h w fun _ _ _ => rfl
theorem Hangs.below {p : Nat → Prop} {w w' : World} {Φ : World → Prop} (h : Hangs p w Φ) (hb : Below w.heap.size w w') : Hangs p w' Φ := fun w2 h2 =>
  h w2 fun b h3 h4 => (h2 b h3 (Nat.lt_of_lt_of_le h4 hb.size)).trans (hb.block b h4)
theorem Hangs.mono {p q : Nat → Prop} {w : World} {Φ : World → Prop} (h : Hangs p w Φ) (hq : ∀ b, b < w.heap.size → p b → q b) : Hangs q w Φ := fun w2 h2 => h w2 fun b h3 h4 => h2 b (hq b h4 h3) h4
theorem Hangs.other {p : Nat → Prop} {w w' : World} {Φ : World → Prop} (h : Hangs p w Φ) (hs : w'.heap.size = w.heap.size) (ho : ∀ b, p b → w'.heap[b]? = w.heap[b]?) : Hangs p w' Φ := fun w2 h2 =>
  h w2 fun b h3 h4 => (h2 b h3 (by rw [hs]; exact h4)).trans (ho b h3)
theorem Hangs.set {p : Nat → Prop} {w : World} {Φ : World → Prop} (h : Hangs p w Φ) {a : Addr} (ha : ¬ p a.block) (v : Value) : Hangs p (w.setCell a v) Φ :=
  h.other (by simp [World.setCell]) fun b hb => Below.heap_setCell _ _ _ _ (fun e => ha (by rw [← e]; exact hb))
theorem Hangs.row {p : Nat → Prop} {w : World} {Φ : World → Prop} (h : Hangs p w Φ) {g : Nat} (ha : ¬ p g) (cs : Array Value) : Hangs p (w.setRow g cs) Φ :=
  h.other (by simp [World.setRow]) fun b hb => setRow_other _ _ _ _ (fun e => ha (by rw [← e]; exact hb))
theorem Hangs.imp {p : Nat → Prop} {w : World} {Φ Ψ : World → Prop} (h : Hangs p w Φ) (hi : ∀ w, Φ w → Ψ w) : Hangs p w Ψ := fun w2 h2 => hi _ (h w2 h2)
/-- Φ hangs on the blocks from B on alone. -/
def New (B : Nat) (w : World) (Φ : World → Prop) : Prop := Hangs (fun b => B ≤ b) w Φ
theorem New.mono {B B' : Nat} {w : World} {Φ : World → Prop} (h : New B w Φ) (hB : B' ≤ B) : New B' w Φ := Hangs.mono h fun _ _ h => Nat.le_trans hB h
theorem New.now {B : Nat} {w : World} {Φ : World → Prop} (h : New B w Φ) : Φ w := Hangs.now h
theorem New.below {B : Nat} {w w' : World} {Φ : World → Prop} (h : New B w Φ) (hb : Below w.heap.size w w') : New B w' Φ := Hangs.below h hb
theorem New.set {B : Nat} {w : World} {Φ : World → Prop} (h : New B w Φ) {a : Addr} (ha : a.block < B) (v : Value) : New B (w.setCell a v) Φ := Hangs.set h (by omega) v
theorem New.row {B : Nat} {w : World} {Φ : World → Prop} (h : New B w Φ) {g : Nat} (ha : g < B) (cs : Array Value) : New B (w.setRow g cs) Φ := Hangs.row h (by omega) cs
theorem New.imp {B : Nat} {w : World} {Φ Ψ : World → Prop} (h : New B w Φ) (hi : ∀ w, Φ w → Ψ w) : New B w Ψ := Hangs.imp h hi
theorem Fresh.hangs {w : World} {B g n cap : Nat} {A : List Int} (h : Fresh w B g n cap A) : Hangs (fun b => b = g) w fun w => Fresh w B g n cap A := fun _ h2 => h.of_block (h2 g rfl h.lt)
theorem Fresh.new {w : World} {B g n cap : Nat} {A : List Int} (h : Fresh w B g n cap A) : New B w fun w => Fresh w B g n cap A := h.hangs.mono fun b _ e => by rw [e]; exact h.base
/-- A copy of a row. -/
theorem clone_arg (ao : Option Addr) (n ca : Nat) (A : List Int) (w : World) (hA : Arg w ao n ca A) (hn : n ≤ 1048576) :
   Calls Tryz.prog 77 #[.slice ao n ca] w fun e w' => ∃ ao' c', e = .returned (.slice ao' n c') ∧ New w.heap.size w' (fun w => Arg w ao' n c' A) ∧ Below w.heap.size w w' := by
  cases ao with
  | none =>
    have hc0 := hA.nil rfl
    subst hc0
    obtain rfl : n = 0 := by have := hA.fit; omega
    obtain rfl : A = [] := List.length_eq_zero_iff.1 hA.row.len
    have hq : ∀ w : World, (binOp .eql 24 (.slice none 0 0) (.slice none 0 0)).run Tryz.prog w = .ok (.bool true) w := fun w => run_eql_nil w _ 83 _ _ _ Tryz.underlying24
    go_enter Tryz.func77, Tryz.ntmps77
    go_wp2
    go_ret
    exact ⟨none, 0, rfl, fun _ _ => ⟨RowAt.nil _ _, by omega, by omega, (fun _ => rfl), fun _ _ e => by cases e⟩, Below.refl _ _⟩
  | some ad =>
    have F0 := fresh_empty w
    have B0 : Below w.heap.size w (w.alloc (.cells #[] 83)) := (Below.refl _ _).alloc (Nat.le_refl _) _
    have R := hA.row.below B0
    have hq : ∀ w : World, (binOp .eql 24 (.slice (some ad) n ca) (.slice none 0 0)).run Tryz.prog w = .ok (.bool false) w := fun w => run_eql_nil w _ 83 _ _ _ Tryz.underlying24
    clear hA
    go_enter Tryz.func77, Tryz.ntmps77
    go_wp2_with (at_builtin; refine wpList_append_row rfl _ _ rfl w.heap.size w.heap.size 0 0 [] rfl F0 (some ad) n ca A rfl R (fun h => by cases h) (by omega) (by simp) ?_; intro g' cap' w' F1 B1)
    rw [Nat.zero_add, List.nil_append] at *
    go_ret
    exact ⟨_, _, rfl, F1.new.imp fun w h => h.arg, B0.trans B1⟩
end Go.Proofs.YtmdjlaileakbeaaGreatDoor

/- append onto a row of the call's own: the row that was there stays as it was. -/
namespace Go.Proofs.YtmdjlaileakbeaaGreatDoor
open Go.ChangeShapes Go.WideShapes Go.ChangeAt Go.RowKit
section
variable {P : Program} (w : World)
theorem run_append_own3 (base : Nat) (t ty e : TypeId) (i : TypeInfo) (z : Value) (bytes : Nat) (ht : P.underlying t = some (.slice e)) (hi : P.info? e = some i) (hz : i.zero = some z)
    (hsize : i.size = 1) (hby : i.bytes = bytes) (hzs : z.cells.size = 1)
    (v : Value) (n : Nat) (xs : List Value) (hown : w.ownsRow base e 1 v n xs)
    (a : Addr) (m c : Nat) (news : List Value) (hl : news.length = m) (hnews : ∀ j u, news[j]? = some u → w.cell? (a.add j) = some u) (h1 : ∀ u ∈ news, u.oneCell' = true)
    (h63 : n + m ≤ maxLen) (hbytes : (n + m) * bytes ≤ 140737488355328) (hbase : base ≤ w.heap.size) :
    ∃ v' w', (Builtin.append_ #[t, t] ty #[v, .slice (some a) m c]).run P w = .ok v' w' ∧ w'.ownsRow base e 1 v' (n + m) (xs ++ news) ∧ w.grownBy w' v.ownBlock ∧ w'.ownsRow base e 1 v n xs := by
  obtain ⟨v', w', hr, h2, h3, h4⟩ := run_append_own (P := P) w base t ty e i z 1 bytes ht hi hz hsize hby hzs (by decide) v n xs hown a m c news (by omega) hnews h1 h63 hbytes hbase
  refine ⟨v', w', hr, h2, h3, ?_⟩
  have hl1 : news.length = m * i.size := by rw [hsize]; omega
  subst hby
  have hsmall : n + m ≤ 9223372036854775807 := by simp only [maxLen] at h63; omega
  rcases hown.2 with ⟨rfl, rfl⟩ | ⟨g, cap, cur, rfl, hbg, hg, hnc, hcm, hcs, htake⟩
  · have hx : xs = [] := List.eq_nil_of_length_eq_zero (by simpa using hown.1)
    subst hx
    exact World.ownsRow_nil _ _ _ _
  · have hxl : xs.length = n := by have := hown.1; omega
    by_cases hroom : n + m ≤ cap
    · have hfit : n * i.size + news.length ≤ cur.size := by rw [hl, hcs, hsize]; omega
      have hr2 := run_append_room (P := P) w t ty e i ht hi g n cap cur hg a m c news hl1 hnews h1 hroom hfit
      rw [hr] at hr2
      injection hr2 with e1 e2
      subst e2
      refine ⟨hown.1, .inr ⟨g, cap, _, rfl, hbg, setRow_heap w g cur _ e _ hg, hnc, hcm, ?_, ?_⟩⟩
      · simp only [List.size_toArray, List.length_append, List.length_take, List.length_drop, Array.length_toList, hsize]
        omega
      · rw [hsize]
        rw [htake, List.append_assoc, ← hown.1]
        exact List.take_left
    · have holds : ∀ j u, xs[j]? = some u → w.cell? ((⟨g, 0, none⟩ : Addr).add j) = some u := hown.cells (g := g) rfl
      have hr2 := run_append_grow (P := P) w t ty e i z ht hi hz ⟨g, 0, none⟩ n cap xs (by rw [hsize]; omega) holds a m c news hl1 hnews (by omega) (by omega) (growslice_fits (by omega) hbytes)
      rw [hr] at hr2
      injection hr2 with e1 e2
      subst e2
      have hlt : g < w.heap.size := (Array.getElem?_eq_some_iff.1 hg).1
      exact ⟨hown.1, .inr ⟨g, cap, cur, rfl, hbg, (heap_alloc_old w.drew _ hlt).trans hg, hnc, hcm, hcs, htake⟩⟩
end
/-- append(out, x), out a row of whole numbers of the call's own, as one operation. -/
theorem wp_append_int {w : World} {o : Oper} {a : Act} {K : Act → World → Prop} {Q : Exit → Act → World → Prop} (s x : Operand) (ho : o.op = .call { callee := .builtin .append, args := #[s, x], argTypes := #[30, 30] })
    (B : Nat) (v : Value) (n : Nat) (A : List Int) (hs : a.eval s = v) (hown : IOwn w B v n A) (bo : Nat) (y : Int) (hx : a.eval x = .slice (some ⟨bo, 0, none⟩) 1 1) (hX : w.cell? ⟨bo, 0, none⟩ = some (.int .i64 y)) (hn : n ≤ 4096) (hB : B ≤ w.heap.size)
    (h : ∀ v' w', IOwn w' B v' (n + 1) (A ++ [y]) → IOwn w' B v n A → w.grownBy w' v.ownBlock → Below B w w' → K (a.put o.dst v') w') : o.wp Tryz.prog a w K Q := by
  obtain ⟨i0, hi, hz0, hz1, hz2⟩ := info_parts Tryz.infoInt
  have hnews : ∀ j u, ([y].map (Value.int .i64))[j]? = some u → w.cell? ((Addr.mk bo 0 none).add j) = some u := by
    intro j u hj
    match j, hj with
    | 0, hj =>
      simp at hj
      subst hj
      have e2 : (Addr.mk bo 0 none).add 0 = ⟨bo, 0, none⟩ := by simp [Addr.add]
      rw [e2, hX]
  obtain ⟨v', w', hr, h2, h3, h4⟩ := run_append_own3 (P := Tryz.prog) w B 30 o.type 3 i0 (.int .i64 0) 8 Tryz.underlying30 hi hz0 hz1 hz2 rfl v n _ hown ⟨bo, 0, none⟩ 1 1 ([y].map (Value.int .i64)) rfl hnews (ints_oneCell _ _) (by unfold maxLen; omega) (by omega) hB
  unfold Oper.wp execOp
  simp only [ho, resolve, invoke, builtin, Sem.run_bind, Sem.run_pure, Result.andThen_ok, List.map_toArray, List.map_cons, List.map_nil, hs, hx, hr]
  exact h v' w' (by unfold IOwn; rw [List.map_append]; exact h2) h4 h3 ((Below.refl _ _).grown h3 hB (fun k hk => (hown.lt k hk).1))
/-- An operation that is wanted. -/
theorem wpList_run {w : World} {ops : Array Oper} {rest : List Oper} {o : Oper} {a : Act} {Q : Exit → Act → World → Prop} (hw : Region.wanted o (yielded ops a.tmps) = true) (h : ∀ K, (∀ a w, wpList Tryz.prog ops Q rest a w → K a w) → Oper.wp Tryz.prog o a w K Q) : wpList Tryz.prog ops Q (o :: rest) a w := by
  simp only [wpList, hw, if_true]
  exact Or.inl (h _ fun a w h => h)
end Go.Proofs.YtmdjlaileakbeaaGreatDoor

/- Package step: copies of rows and of lists of rows. -/
namespace Go.Proofs.YtmdjlaileakbeaaGreatDoor
open Go.ChangeShapes Go.WideShapes Go.ChangeAt Go.RowKit
/-- Block g is filled up to place k with rows that hang on newer blocks alone. -/
structure FillTo (w : World) (g m k : Nat) (R : List (List Int)) : Prop where
  row : ∃ cs : Array Value, w.heap[g]? = some (.cells cs 24 (0, 0)) ∧ cs.size = m ∧ ∀ t, t < k → ∃ ro n c, cs[t]? = some (.slice ro n c) ∧ New (g + 1) w (fun w => Arg w ro n c (rowOf R t))
theorem FillTo.lt {w : World} {g m k : Nat} {R : List (List Int)} (h : FillTo w g m k R) : g < w.heap.size := by
  obtain ⟨cs, h1, _⟩ := h.row
  exact (Array.getElem?_eq_some_iff.1 h1).1
theorem FillTo.below {w w' : World} {g m k : Nat} {R : List (List Int)} (h : FillTo w g m k R) (hb : Below w.heap.size w w') : FillTo w' g m k R := by
  have hl := h.lt
  obtain ⟨cs, h1, h2, h3⟩ := h.row
  exact ⟨cs, (hb.block g hl).trans h1, h2, fun t ht => let ⟨ro, n, c, e, N⟩ := h3 t ht; ⟨ro, n, c, e, N.below hb⟩⟩
theorem FillTo.frozen {w : World} {g m k : Nat} {R : List (List Int)} (h : FillTo w g m k R) (t : Nat) : w.frozen? ⟨g, t, none⟩ = false := by
  obtain ⟨cs, h1, _⟩ := h.row
  unfold World.frozen?; simp only [h1]; rfl
theorem FillTo.cell {w : World} {g m k : Nat} {R : List (List Int)} (h : FillTo w g m k R) {t : Nat} (ht : t < m) : ∃ v, w.cell? ⟨g, t, none⟩ = some v := by
  obtain ⟨cs, h1, h2, _⟩ := h.row
  refine ⟨cs[t]'(by omega), ?_⟩
  unfold World.cell?; simp only [h1]
  exact Array.getElem?_eq_getElem (by omega)
theorem FillTo.step {w : World} {g m k : Nat} {R : List (List Int)} (h : FillTo w g m k R) (hk : k < m) {ro : Option Addr} {n c : Nat} (hA : New (g + 1) w fun w => Arg w ro n c (rowOf R k)) : FillTo (w.setCell ⟨g, k, none⟩ (.slice ro n c)) g m (k + 1) R := by
  obtain ⟨cs, h1, h2, h3⟩ := h.row
  refine ⟨cs.setIfInBounds k (.slice ro n c), by simp [World.setCell, Array.getElem?_modify, h1], by simpa using h2, fun t ht => ?_⟩
  rw [Array.getElem?_setIfInBounds]
  by_cases e : k = t
  · subst e
    rw [if_pos rfl, if_pos (by omega)]
    exact ⟨ro, n, c, rfl, hA.set (by show g < g + 1; omega) _⟩
  · rw [if_neg e]
    obtain ⟨ro', n', c', e2, N⟩ := h3 t (by omega)
    exact ⟨ro', n', c', e2, N.set (by show g < g + 1; omega) _⟩
theorem fillTo_made (w : World) (m : Nat) (R : List (List Int)) : FillTo (w.alloc (.cells (madeCells #[.slice none 0 0] m) 24)) w.heap.size m 0 R :=
  ⟨_, heap_alloc_new _ _, by simp [madeCells], fun t ht => by omega⟩
/-- In w the slice of n rows that begins at ro has the values vs, and they read as R. -/
structure GridV (w : World) (ro : Option Addr) (n : Nat) (vs : List Value) (R : List (List Int)) : Prop where
  rows : RowsAt w vs R
  len : vs.length = n
  max : n ≤ 9223372036854775807
  cells : 0 < n → ∃ b o, ro = some ⟨b, o, none⟩ ∧ ∀ j u, vs[j]? = some u → w.cell? ⟨b, o + j, none⟩ = some u
theorem GridV.grid {w : World} {ro : Option Addr} {n : Nat} {vs : List Value} {R : List (List Int)} (h : GridV w ro n vs R) : GridAt w ro n R := by
  have hl : R.length = n := by rw [← h.len, h.rows.len]
  refine ⟨hl, h.max, fun hn => ?_⟩
  obtain ⟨b, o, e, hc⟩ := h.cells hn
  refine ⟨b, o, e, fun t ht => ?_⟩
  obtain ⟨r, m, c, e2, A⟩ := h.rows.rows t (by omega)
  exact ⟨r, m, c, hc t _ e2, A⟩
theorem gridV_nil (w : World) (ro : Option Addr) : GridV w ro 0 [] [] := ⟨⟨rfl, fun t ht => by simp at ht⟩, rfl, by omega, fun h => by omega⟩
/-- A whole list of rows hangs on its own blocks alone. -/
theorem FillTo.grid {w : World} {g m : Nat} {R : List (List Int)} (h : FillTo w g m m R) (hl : R.length = m) (hm : m ≤ 9223372036854775807) {B : Nat} (hB : B ≤ g) : ∃ vs, New B w fun w => GridV w (some ⟨g, 0, none⟩) m vs R := by
  have hlt := h.lt
  obtain ⟨cs, h1, hsz, h3⟩ := h.row
  refine ⟨cs.toList, fun w2 h2 => ?_⟩
  have hg := (h2 g hB hlt).trans h1
  refine ⟨⟨by simp [hsz, hl], fun t ht => ?_⟩, by simp [hsz], hm, fun _ => ⟨g, 0, rfl, fun j u hj => ?_⟩⟩
  · obtain ⟨ro, n, c, e, N⟩ := h3 t (by omega)
    exact ⟨ro, n, c, by simpa using e, N w2 fun b hb hb2 => h2 b (Nat.le_trans (by omega) hb) hb2⟩
  · rw [Nat.zero_add]
    unfold World.cell?
    simp only [hg]
    simpa using hj
set_option maxHeartbeats 800000 in
theorem copyRows_any (ao : Option Addr) (m ca : Nat) (R : List (List Int)) (w : World) (hR : GridAt w ao m R) (hm : m ≤ 4096) (hl : ∀ t, t < m → (rowOf R t).length ≤ 1048576) :
   Calls Tryz.prog 76 #[.slice ao m ca] w fun e w' => ∃ g vs, e = .returned (.slice (some ⟨g, 0, none⟩) m m) ∧ New w.heap.size w' (fun w => GridV w (some ⟨g, 0, none⟩) m vs R) ∧ Below w.heap.size w w' := by
  have hmk := run_make_row' (P := Tryz.prog) 77 24 (.slice none 0 0) 24 Tryz.underlying77 Tryz.infoRow rfl .i64 .i64 m (by omega) (by omega)
  have F0 := fillTo_made w m R
  have B0 : Below w.heap.size w (w.alloc (.cells (madeCells #[.slice none 0 0] m) 24)) := (Below.refl _ _).alloc (Nat.le_refl _) _
  go_enter Tryz.func76, Tryz.ntmps76
  go_wp2
  clear hmk
  generalize w.alloc (.cells (madeCells #[.slice none 0 0] m) 24) = w0 at *
  go_loopg [11] m (fun r i wr => ∃ k : Nat, k ≤ m ∧ r = m - k ∧ i = .int .i64 k ∧ FillTo wr w.heap.size m k R ∧ Below w.heap.size w wr)
  case atStart => exact ⟨0, by omega, by omega, rfl, F0, B0⟩
  case round =>
    obtain ⟨k, hk, rfl, rfl, F1, B1⟩ := hrel
    clear F0 B0
    by_cases hlt : k < m
    · obtain ⟨b, o, rfl, hc⟩ := (hR.below B1).cells (by omega)
      obtain ⟨ro, n, c, h1, A1⟩ := hc k hlt
      clear hc
      have hn := hl k hlt
      rw [A1.row.len] at hn
      go_wp2_with fail
      refine (clone_arg ro n c _ wr A1 hn).mono ?_
      rintro e w2 ⟨ao', c', rfl, N2, B2⟩
      have s1 := F1.lt
      have F2 := (F1.below B2)
      have F3 := F2.step hlt (N2.mono (by omega))
      have ff := F2.frozen k
      obtain ⟨v, hv⟩ := F2.cell hlt
      have B3 := below_then B1 B2
      clear N2 A1 F1
      go_wp2
      go_roundg (m - (k + 1))
      case measure => omega
      case rel => exact ⟨k + 1, by omega, rfl, by go_num, F3, B3.setCell (Nat.le_refl _) _⟩
    · obtain rfl : k = m := by omega
      go_wp2
      go_ret
      obtain ⟨vs, N⟩ := F1.grid hR.len (by omega) (Nat.le_refl w.heap.size)
      exact ⟨w.heap.size, vs, rfl, N, B1⟩
/-- In w the slice of lists that begins at ao reads as C. -/
structure CubeAt (w : World) (ao : Option Addr) (m : Nat) (C : List (List (List Int))) : Prop where
  len : C.length = m
  max : m ≤ 9223372036854775807
  cells : 0 < m → ∃ b o, ao = some ⟨b, o, none⟩ ∧ ∀ (t : Nat) (R : List (List Int)), C[t]? = some R → ∃ ro n c, w.cell? ⟨b, o + t, none⟩ = some (.slice ro n c) ∧ (ro = none → c = 0) ∧ n ≤ c ∧ c ≤ 9223372036854775807 ∧ GridAt w ro n R
theorem CubeAt.below {w w' : World} {ao : Option Addr} {m : Nat} {C : List (List (List Int))} (h : CubeAt w ao m C) (hb : Below w.heap.size w w') : CubeAt w' ao m C := by
  refine ⟨h.len, h.max, fun hn => ?_⟩
  obtain ⟨b, o, e, hc⟩ := h.cells hn
  refine ⟨b, o, e, fun t R hR => ?_⟩
  obtain ⟨ro, n, c, h1, h2, h3, h4, h5⟩ := hc t R hR
  have hlt : b < w.heap.size := by simpa using World.block_lt_of_cell? w _ h1
  exact ⟨ro, n, c, by rw [hb.cell (by exact hlt)]; exact h1, h2, h3, h4, h5.below hb⟩
/-- The block g of lists, filled up to place k with full lists that hang on newer blocks alone. -/
structure Lists (w : World) (g m k : Nat) (C : List (List (List Int))) : Prop where
  row : ∃ cs : Array Value, w.heap[g]? = some (.cells cs 77 (0, 0)) ∧ cs.size = m ∧ ∀ (t : Nat) (R : List (List Int)), t < k → C[t]? = some R → ∃ ro n vs, cs[t]? = some (.slice ro n n) ∧ (ro = none → n = 0) ∧ New (g + 1) w (fun w => GridV w ro n vs R)
theorem Lists.lt {w : World} {g m k : Nat} {C : List (List (List Int))} (h : Lists w g m k C) : g < w.heap.size := by
  obtain ⟨cs, h1, _⟩ := h.row
  exact (Array.getElem?_eq_some_iff.1 h1).1
theorem Lists.below {w w' : World} {g m k : Nat} {C : List (List (List Int))} (h : Lists w g m k C) (hb : Below w.heap.size w w') : Lists w' g m k C := by
  have hl := h.lt
  obtain ⟨cs, h1, h2, h3⟩ := h.row
  exact ⟨cs, (hb.block g hl).trans h1, h2, fun t R ht hR => let ⟨ro, n, vs, e, h4, N⟩ := h3 t R ht hR; ⟨ro, n, vs, e, h4, N.below hb⟩⟩
theorem Lists.frozen {w : World} {g m k : Nat} {C : List (List (List Int))} (h : Lists w g m k C) (t : Nat) : w.frozen? ⟨g, t, none⟩ = false := by
  obtain ⟨cs, h1, _⟩ := h.row
  unfold World.frozen?; simp only [h1]; rfl
theorem Lists.cell {w : World} {g m k : Nat} {C : List (List (List Int))} (h : Lists w g m k C) {t : Nat} (ht : t < m) : ∃ v, w.cell? ⟨g, t, none⟩ = some v := by
  obtain ⟨cs, h1, h2, _⟩ := h.row
  refine ⟨cs[t]'(by omega), ?_⟩
  unfold World.cell?; simp only [h1]
  exact Array.getElem?_eq_getElem (by omega)
theorem Lists.step {w : World} {g m k : Nat} {C : List (List (List Int))} (h : Lists w g m k C) (hk : k < m) {ro : Option Addr} {n : Nat} {vs : List Value} {R : List (List Int)} (hR : C[k]? = some R) (hn : ro = none → n = 0) (hA : New (g + 1) w fun w => GridV w ro n vs R) : Lists (w.setCell ⟨g, k, none⟩ (.slice ro n n)) g m (k + 1) C := by
  obtain ⟨cs, h1, h2, h3⟩ := h.row
  refine ⟨cs.setIfInBounds k (.slice ro n n), by simp [World.setCell, Array.getElem?_modify, h1], by simpa using h2, fun t R' ht hR' => ?_⟩
  rw [Array.getElem?_setIfInBounds]
  by_cases e : k = t
  · subst e
    rw [hR] at hR'
    simp only [Option.some.injEq] at hR'
    subst hR'
    rw [if_pos rfl, if_pos (by omega)]
    exact ⟨ro, n, vs, rfl, hn, hA.set (by show g < g + 1; omega) _⟩
  · rw [if_neg e]
    obtain ⟨ro', n', vs', e2, h4, N⟩ := h3 t R' (by omega) hR'
    exact ⟨ro', n', vs', e2, h4, N.set (by show g < g + 1; omega) _⟩
theorem lists_made (w : World) (m : Nat) (C : List (List (List Int))) : Lists (w.alloc (.cells (madeCells #[.slice none 0 0] m) 77)) w.heap.size m 0 C :=
  ⟨_, heap_alloc_new _ _, by simp [madeCells], fun t R ht => by omega⟩
theorem Tryz.infoList : (Tryz.prog.info? 77).map (fun i => (i.zero, i.size, i.bytes)) = some (some (.slice none 0 0), 1, 24) := by kernel_rfl
set_option maxHeartbeats 800000 in
theorem copyLists_any (ao : Option Addr) (m ca : Nat) (C : List (List (List Int))) (w : World) (hC : CubeAt w ao m C) (hm : m ≤ 4096) (hl : ∀ R ∈ C, R.length ≤ 4096 ∧ ∀ t, t < R.length → (rowOf R t).length ≤ 1048576) :
   Calls Tryz.prog 55 #[.slice ao m ca] w fun e w' => e = .returned (.slice (some ⟨w.heap.size, 0, none⟩) m m) ∧ Lists w' w.heap.size m m C ∧ Below w.heap.size w w' := by
  have hmk := run_make_row' (P := Tryz.prog) 31 77 (.slice none 0 0) 24 Tryz.underlying31 Tryz.infoList rfl .i64 .i64 m (by omega) (by omega)
  have F0 := lists_made w m C
  have B0 : Below w.heap.size w (w.alloc (.cells (madeCells #[.slice none 0 0] m) 77)) := (Below.refl _ _).alloc (Nat.le_refl _) _
  go_enter Tryz.func55, Tryz.ntmps55
  go_wp2
  clear hmk
  generalize w.alloc (.cells (madeCells #[.slice none 0 0] m) 77) = w0 at *
  go_loopg [11] m (fun r i wr => ∃ k : Nat, k ≤ m ∧ r = m - k ∧ i = .int .i64 k ∧ Lists wr w.heap.size m k C ∧ Below w.heap.size w wr)
  case atStart => exact ⟨0, by omega, by omega, rfl, F0, B0⟩
  case round =>
    obtain ⟨k, hk, rfl, rfl, F1, B1⟩ := hrel
    clear F0 B0
    by_cases hlt : k < m
    · obtain ⟨b, o, rfl, hc⟩ := (hC.below B1).cells (by omega)
      have hR : C[k]? = some (C[k]'(by rw [hC.len]; exact hlt)) := List.getElem?_eq_getElem _
      have hmem : C[k]'(by rw [hC.len]; exact hlt) ∈ C := List.getElem_mem _
      generalize C[k]'(by rw [hC.len]; exact hlt) = R at hR hmem
      obtain ⟨ro, n, c, h1, h2, h3, h4, G1⟩ := hc k R hR
      clear hc
      obtain ⟨q1, q2⟩ := hl R hmem
      rw [G1.len] at q1 q2
      go_wp2_with fail
      refine (copyRows_any ro n c R wr G1 q1 q2).mono ?_
      rintro e w2 ⟨g, vs, rfl, N2, B2⟩
      have s1 := F1.lt
      have F2 := (F1.below B2)
      have F3 := F2.step hlt hR (fun h => by cases h) (N2.mono (by omega))
      have ff := F2.frozen k
      obtain ⟨v, hv⟩ := F2.cell hlt
      have B3 := below_then B1 B2
      clear N2 F1 hR h2 h3 h4
      go_wp2
      go_roundg (m - (k + 1))
      case measure => omega
      case rel => exact ⟨k + 1, by omega, rfl, by go_num, F3, B3.setCell (Nat.le_refl _) _⟩
    · obtain rfl : k = m := by omega
      go_wp2
      go_ret
      exact ⟨rfl, F1, B1⟩
end Go.Proofs.YtmdjlaileakbeaaGreatDoor

/- Package step: which tokens and lists fit; a view's copy. -/
namespace Go.Proofs.YtmdjlaileakbeaaGreatDoor
open Go.ChangeShapes Go.WideShapes Go.ChangeAt Go.RowKit
/-- Is it a token? -/
def tokB (V x : Int) : Bool := decide (0 ≤ x ∧ x < V)
/-- The error's number of a row of tokens that are asked for. -/
def promptN (V : Int) (A : List Int) : Int := if A.length = 0 then 8 else if 128 < A.length then 2 else if A.all (tokB V) = true then 0 else 7
theorem all_take_el {A : List Int} {k : Nat} {p : Int → Bool} (hk : k < A.length) : (A.take (k + 1)).all p = ((A.take k).all p && p (el A k)) := by
  have e : A[k]? = some (el A k) := by unfold el; simp [List.getD_eq_getElem?_getD, List.getElem?_eq_getElem hk]
  rw [List.take_add_one, e, List.all_append]; simp
theorem all_el {A : List Int} {p : Int → Bool} {k : Nat} (hk : k < A.length) (h : A.all p = true) : p (el A k) = true := by
  have := List.all_eq_true.1 h (el A k) (el_mem hk)
  exact this
theorem all_not {A : List Int} {p : Int → Bool} {k : Nat} (hk : k < A.length) (h : p (el A k) = false) : A.all p = false := by
  cases e : A.all p with
  | false => rfl
  | true => rw [all_el hk e] at h; cases h
theorem prompt_any (V D Hd H L : Int) (ao : Option Addr) (n ca : Nat) (A : List Int) (w : World) (hA : IArg w ao n ca A) :
   Calls Tryz.prog 45 #[.agg (cfgC V D Hd H L), .slice ao n ca] w fun e w' => e = .returned (.int .i64 (promptN V A)) ∧ Below w.heap.size w w' := by
  have hl := hA.row.len
  have hm := hA.row.max
  have X0 := blk_new w 23 (cfgC V D Hd H L)
  have B0 : Below w.heap.size w (w.alloc (.cells (cfgC V D Hd H L) 23)) := (Below.refl _ _).alloc (Nat.le_refl _) _
  unfold cfgC at *
  generalize hw0 : w.alloc (.cells #[.int .i64 V, .int .i64 D, .int .i64 Hd, .int .i64 H, .int .i64 L] 23) = w0 at *
  have a0 : w0.cell? ⟨w.heap.size, 0, none⟩ = some (.int .i64 V) := X0.cell 0 rfl
  have R := hA.row.below B0
  clear hA
  have HN : Hid (promptN V A = if A.length = 0 then 8 else if 128 < A.length then 2 else if A.all (tokB V) = true then 0 else 7) := rfl
  generalize promptN V A = res at *
  by_cases h0 : n = 0
  · subst h0
    have HF : Hid (res = 8) := by show _ = _; rw [HN.out, hl]; rfl
    clear HN
    go_enter Tryz.func45, Tryz.ntmps45
    go_wp2
    go_ret
    exact ⟨ret_int HF.out.symm, B0⟩
  · by_cases h1 : 128 < n
    · have HF : Hid (res = 2) := by show _ = _; rw [HN.out, hl, if_neg h0, if_pos h1]
      clear HN
      go_enter Tryz.func45, Tryz.ntmps45
      go_wp2
      go_ret
      exact ⟨ret_int HF.out.symm, B0⟩
    · have HF : Hid (res = if A.all (tokB V) = true then 0 else 7) := by show _ = _; rw [HN.out, hl, if_neg h0, if_neg h1]
      clear HN
      obtain ⟨b, o, rfl, hc⟩ := R.cells (by omega)
      have hz0 : ((n : Int) == 0) = false := by simpa using h0
      go_enter Tryz.func45, Tryz.ntmps45
      go_wp2_with fail
      go_loopg [15] n (fun r i wr => ∃ k : Nat, k ≤ n ∧ r = n - k ∧ i = .int .i64 k ∧ (A.take k).all (tokB V) = true ∧ wr = w0)
      case atStart => exact ⟨0, by omega, by omega, rfl, rfl, rfl⟩
      case round =>
        obtain ⟨k, hk, rfl, rfl, hall, rfl⟩ := hrel
        by_cases hlt : k < n
        · have ck := hc k hlt
          have sx := R.small k
          have HS : Hid ((A.take (k + 1)).all (tokB V) = ((A.take k).all (tokB V) && tokB V (el A k))) := all_take_el (by omega)
          have HB : Hid (tokB V (el A k) = false → A.all (tokB V) = false) := fun h => all_not (by omega) h
          have HT : Hid (tokB V (el A k) = decide (0 ≤ el A k ∧ el A k < V)) := rfl
          clear hc
          generalize el A k = x at *
          by_cases h2 : x < 0
          · have HR : Hid (res = 7) := by show _ = _; rw [HF.out, HB.out (by rw [HT.out]; exact decide_eq_false (by omega))]; rfl
            clear HF HS HB HT
            go_wp2
            go_ret
            exact ⟨ret_int HR.out.symm, B0⟩
          · by_cases h3 : V ≤ x
            · have HR : Hid (res = 7) := by show _ = _; rw [HF.out, HB.out (by rw [HT.out]; exact decide_eq_false (by omega))]; rfl
              clear HF HS HB HT
              go_wp2
              go_ret
              exact ⟨ret_int HR.out.symm, B0⟩
            · have HA : Hid ((A.take (k + 1)).all (tokB V) = true) := by show _ = _; rw [HS.out, hall, HT.out, decide_eq_true (by omega)]; rfl
              clear HS HB HT
              go_wp2
              go_roundg (n - (k + 1))
              case measure => omega
              case rel => exact ⟨k + 1, by omega, rfl, by go_num, HA.out, rfl⟩
        · obtain rfl : k = n := by omega
          rw [← hl, List.take_length] at hall
          have HR : Hid (res = 0) := by show _ = _; rw [HF.out, hall]; rfl
          clear HF
          go_wp2
          go_ret
          exact ⟨ret_int HR.out.symm, B0⟩
theorem isToken_any (V D Hd H L : Int) (x : Int) (w : World) :
   Calls Tryz.prog 21 #[.agg (cfgC V D Hd H L), .int .i64 x] w fun e w' => e = .returned (.bool (tokB V x)) ∧ Below w.heap.size w w' := by
  have X0 := blk_new w 23 (cfgC V D Hd H L)
  have B0 : Below w.heap.size w (w.alloc (.cells (cfgC V D Hd H L) 23)) := (Below.refl _ _).alloc (Nat.le_refl _) _
  unfold cfgC at *
  generalize hw0 : w.alloc (.cells #[.int .i64 V, .int .i64 D, .int .i64 Hd, .int .i64 H, .int .i64 L] 23) = w0 at *
  have a0 : w0.cell? ⟨w.heap.size, 0, none⟩ = some (.int .i64 V) := X0.cell 0 rfl
  have HT : Hid (tokB V x = decide (0 ≤ x ∧ x < V)) := rfl
  generalize tokB V x = res at *
  by_cases h2 : x < 0
  · have HR : Hid (res = false) := by show _ = _; rw [HT.out]; exact decide_eq_false (by omega)
    clear HT
    go_enter Tryz.func21, Tryz.ntmps21
    go_wp2
    go_ret
    exact ⟨by rw [HR.out]; rfl, B0⟩
  · by_cases h3 : V ≤ x
    · have HR : Hid (res = false) := by show _ = _; rw [HT.out]; exact decide_eq_false (by omega)
      have h3' : ¬ x < V := by omega
      clear HT
      go_enter Tryz.func21, Tryz.ntmps21
      go_wp2
      go_ret
      exact ⟨by rw [HR.out]; rfl, B0⟩
    · have HR : Hid (res = true) := by show _ = _; rw [HT.out]; exact decide_eq_true (by omega)
      clear HT
      go_enter Tryz.func21, Tryz.ntmps21
      go_wp2
      go_ret
      exact ⟨by rw [HR.out]; rfl, B0⟩
set_option maxHeartbeats 800000 in
theorem listsFit_ok (V : Int) (D : Nat) (Hd H : Int) (m : Nat) (ao : Option Addr) (ca n : Nat) (C : List (List (List Int))) (w : World) (hC : CubeAt w ao m C) (hf : ∀ R ∈ C, R.length = n ∧ ∀ t, t < n → (rowOf R t).length = D) (hn : n ≤ 4096) (hD : D ≤ 4096) :
   Calls Tryz.prog 27 #[.agg (cfgC V D Hd H m), .slice ao m ca, .int .i64 n] w fun e w' => e = .returned (.bool true) ∧ Below w.heap.size w w' := by
  have hm := hC.max
  have X0 := blk_new w 23 (cfgC V D Hd H m)
  have B0 : Below w.heap.size w (w.alloc (.cells (cfgC V D Hd H m) 23)) := (Below.refl _ _).alloc (Nat.le_refl _) _
  unfold cfgC at *
  generalize hw0 : w.alloc (.cells #[.int .i64 V, .int .i64 (D : Int), .int .i64 Hd, .int .i64 H, .int .i64 (m : Int)] 23) = w0 at *
  have a1 : w0.cell? ⟨w.heap.size, 1, none⟩ = some (.int .i64 (D : Int)) := X0.cell 1 rfl
  have a4 : w0.cell? ⟨w.heap.size, 4, none⟩ = some (.int .i64 (m : Int)) := X0.cell 4 rfl
  replace hC := hC.below B0
  go_enter Tryz.func27, Tryz.ntmps27
  go_wp2_with fail
  go_loopg [18] m (fun r i wr => ∃ k : Nat, k ≤ m ∧ r = m - k ∧ i = .int .i64 k ∧ wr = w0)
  case atStart => exact ⟨0, by omega, by omega, rfl, rfl⟩
  case round =>
    obtain ⟨k, hk, rfl, rfl, rfl⟩ := hrel
    by_cases hlt : k < m
    · obtain ⟨b, o, rfl, hc⟩ := hC.cells (by omega)
      have hR : C[k]? = some (C[k]'(by rw [hC.len]; exact hlt)) := List.getElem?_eq_getElem _
      have hmem : C[k]'(by rw [hC.len]; exact hlt) ∈ C := List.getElem_mem _
      generalize C[k]'(by rw [hC.len]; exact hlt) = R at hR hmem
      obtain ⟨ro, n', c, h1, h2, h3, h4, G1⟩ := hc k R hR
      obtain ⟨q1, q2⟩ := hf R hmem
      obtain rfl : n' = n := by rw [← q1, G1.len]
      clear hc h2 h3 h4 q1 hR
      go_wp2_with fail
      go_loopg [28] n' (fun r i wx => ∃ j : Nat, j ≤ n' ∧ r = n' - j ∧ i = .int .i64 j ∧ wx = wr)
      case atStart => exact ⟨0, by omega, by omega, rfl, rfl⟩
      case round =>
        obtain ⟨j, hj, rfl, rfl, rfl⟩ := hrel
        by_cases hjt : j < n'
        · obtain ⟨b2, o2, rfl, hc⟩ := G1.cells (by omega)
          obtain ⟨ro2, d, c2, e1, A1⟩ := hc j hjt
          obtain rfl : d = D := by rw [← q2 j hjt, A1.row.len]
          clear hc A1
          go_wp2
          go_roundg (n' - (j + 1))
          case measure => omega
          case rel => exact ⟨j + 1, by omega, rfl, by go_num, rfl⟩
        · obtain rfl : j = n' := by omega
          go_wp2
          go_roundg (m - (k + 1))
          case measure => omega
          case rel => exact ⟨k + 1, by omega, rfl, by go_num, rfl⟩
    · obtain rfl : k = m := by omega
      go_wp2
      go_ret
      exact ⟨rfl, B0⟩
/-- A view: its tokens, and the lists of its keys and values. -/
structure Vw where
  T : List Int
  K : List (List (List Int))
  V : List (List (List Int))
/-- A view's values. -/
structure VwV where
  t : Sl
  k : Sl
  v : Sl
def VwV.cells (v : VwV) : Array Value := #[v.t.v, v.k.v, v.v.v]
structure VwAt (w : World) (v : VwV) (X : Vw) : Prop where
  t : IArg w v.t.ao v.t.n v.t.c X.T
  k : CubeAt w v.k.ao v.k.n X.K
  v : CubeAt w v.v.ao v.v.n X.V
theorem VwAt.below {w w' : World} {v : VwV} {X : Vw} (h : VwAt w v X) (hb : Below w.heap.size w w') : VwAt w' v X := ⟨h.t.below hb, h.k.below hb, h.v.below hb⟩
/-- A view that fits: of nothing, or of tokens with as many rows in each list. -/
structure VwFit (V : Int) (D L : Nat) (X : Vw) : Prop where
  most : X.T.length ≤ 128
  toks : X.T.all (tokB V) = true
  k : X.K.length = if X.T.length = 0 then 0 else L
  v : X.V.length = if X.T.length = 0 then 0 else L
  ks : ∀ R ∈ X.K, R.length = X.T.length ∧ ∀ t, t < X.T.length → (rowOf R t).length = D
  vs : ∀ R ∈ X.V, R.length = X.T.length ∧ ∀ t, t < X.T.length → (rowOf R t).length = D
theorem Tryz.infoV : (Tryz.prog.info? 35).map (·.size) = some 3 := by kernel_rfl
theorem Tryz.infoC : (Tryz.prog.info? 23).map (·.size) = some 5 := by kernel_rfl
set_option maxRecDepth 100000 in
set_option maxHeartbeats 1600000 in
theorem sfits_ok (V : Int) (D : Nat) (Hd H : Int) (L : Nat) (v : VwV) (X : Vw) (w : World) (hv : VwAt w v X) (hf : VwFit V D L X) (hD : D ≤ 4096) :
   Calls Tryz.prog 11 #[.agg (cfgC V D Hd H L), .agg v.cells] w fun e w' => e = .returned (.bool true) ∧ Below w.heap.size w w' := by
  obtain ⟨⟨ta, tn, tz⟩, ⟨ka, kn, kz⟩, ⟨va, vn, vz⟩⟩ := v
  have hT := hv.t.row
  have hK := hv.k
  have hV := hv.v
  clear hv
  simp only at hT hK hV
  have hl := hT.len
  have most := hf.most
  have kl := hK.len
  have vl := hV.len
  have e1 := hf.k
  have e2 := hf.v
  rw [hl] at most e1 e2
  rw [kl] at e1
  rw [vl] at e2
  show Calls Tryz.prog 11 #[.agg #[.int .i64 V, .int .i64 (D : Int), .int .i64 Hd, .int .i64 H, .int .i64 (L : Int)], .agg #[.slice ta tn tz, .slice ka kn kz, .slice va vn vz]] w _
  have X0 := blk_new w 23 #[.int .i64 V, .int .i64 (D : Int), .int .i64 Hd, .int .i64 H, .int .i64 (L : Int)]
  have B0 : Below w.heap.size w (w.alloc (.cells #[.int .i64 V, .int .i64 (D : Int), .int .i64 Hd, .int .i64 H, .int .i64 (L : Int)] 23)) := (Below.refl _ _).alloc (Nat.le_refl _) _
  have s0 : (w.alloc (.cells #[.int .i64 V, .int .i64 (D : Int), .int .i64 Hd, .int .i64 H, .int .i64 (L : Int)] 23)).heap.size = w.heap.size + 1 := by simp
  generalize hw0 : w.alloc (.cells #[.int .i64 V, .int .i64 (D : Int), .int .i64 Hd, .int .i64 H, .int .i64 (L : Int)] 23) = w0 at *
  have X1 := blk_new w0 35 #[.slice ta tn tz, .slice ka kn kz, .slice va vn vz]
  have B1 : Below w0.heap.size w0 (w0.alloc (.cells #[.slice ta tn tz, .slice ka kn kz, .slice va vn vz] 35)) := (Below.refl _ _).alloc (Nat.le_refl _) _
  rw [s0] at X1
  generalize hw1 : w0.alloc (.cells #[.slice ta tn tz, .slice ka kn kz, .slice va vn vz] 35) = w1 at *
  replace X0 := X0.below B1
  replace B1 := below_then B0 B1
  have b0 : w1.cell? ⟨w.heap.size + 1, 0, none⟩ = some (.slice ta tn tz) := X1.cell 0 rfl
  have b1 : w1.cell? ⟨w.heap.size + 1, 1, none⟩ = some (.slice ka kn kz) := X1.cell 1 rfl
  have b2 : w1.cell? ⟨w.heap.size + 1, 2, none⟩ = some (.slice va vn vz) := X1.cell 2 rfl
  by_cases h0 : tn = 0
  · subst h0
    rw [if_pos rfl] at e1 e2
    subst e1 e2
    go_enter Tryz.func11, Tryz.ntmps11
    go_wp2
    go_ret
    exact ⟨rfl, B1⟩
  · rw [if_neg h0] at e1 e2
    subst e1
    obtain rfl : vn = kn := e2
    have HK := fun wv (h : CubeAt wv ka vn X.K) => listsFit_ok V D Hd H vn ka kz tn X.K wv h (by rw [← hl]; exact hf.ks) (by omega) hD
    have HV := fun wv (h : CubeAt wv va vn X.V) => listsFit_ok V D Hd H vn va vz tn X.V wv h (by rw [← hl]; exact hf.vs) (by omega) hD
    have HI := fun wv x => isToken_any V D Hd H vn x wv
    have tk := hf.toks
    clear hf
    unfold cfgC at HK HV HI
    replace hT := hT.below B1
    obtain ⟨b, o, rfl, hc⟩ := hT.cells (by omega)
    have hz0 : ((tn : Int) == 0) = false := by simpa using h0
    go_enter Tryz.func11, Tryz.ntmps11
    go_wp2_with fail
    go_loopg [30] tn (fun r i wr => ∃ k : Nat, k ≤ tn ∧ r = tn - k ∧ i = .int .i64 k ∧ Below w1.heap.size w1 wr)
    case atStart => exact ⟨0, by omega, by omega, rfl, Below.refl _ _⟩
    case round =>
      obtain ⟨k, hk, rfl, rfl, BR⟩ := hrel
      have Y0 := X0.below BR
      have Y1 := X1.below BR
      have a0 : wr.cell? ⟨w.heap.size, 0, none⟩ = some (.int .i64 V) := Y0.cell 0 rfl
      have a1 : wr.cell? ⟨w.heap.size, 1, none⟩ = some (.int .i64 (D : Int)) := Y0.cell 1 rfl
      have a2 : wr.cell? ⟨w.heap.size, 2, none⟩ = some (.int .i64 Hd) := Y0.cell 2 rfl
      have a3 : wr.cell? ⟨w.heap.size, 3, none⟩ = some (.int .i64 H) := Y0.cell 3 rfl
      have a4 : wr.cell? ⟨w.heap.size, 4, none⟩ = some (.int .i64 (vn : Int)) := Y0.cell 4 rfl
      clear b0 b1 b2
      by_cases hlt : k < tn
      · have ck : wr.cell? ⟨b, o + k, none⟩ = some (.int .i64 (el X.T k)) := by
          have h1 := hc k hlt
          have hb : b < w1.heap.size := by simpa using World.block_lt_of_cell? w1 _ h1
          rw [BR.cell (by exact hb)]
          exact h1
        have tx := all_el (k := k) (by rw [hl]; exact hlt) tk
        generalize el X.T k = x at *
        go_wp2_with fail
        refine (HI _ x).mono ?_
        rintro e w2 ⟨rfl, B2⟩
        rw [tx]
        have B3 := below_then BR B2
        go_wp2
        go_roundg (tn - (k + 1))
        case measure => omega
        case rel => exact ⟨k + 1, by omega, rfl, by go_num, B3⟩
      · obtain rfl : k = tn := by omega
        have b0 : wr.cell? ⟨w.heap.size + 1, 0, none⟩ = some (.slice (some ⟨b, o, none⟩) k tz) := Y1.cell 0 rfl
        have b1 : wr.cell? ⟨w.heap.size + 1, 1, none⟩ = some (.slice ka vn kz) := Y1.cell 1 rfl
        have b2 : wr.cell? ⟨w.heap.size + 1, 2, none⟩ = some (.slice va vn vz) := Y1.cell 2 rfl
        have BW := below_then B1 BR
        go_wp2_with fail
        refine (HK _ (hK.below BW)).mono ?_
        rintro e w2 ⟨rfl, B2⟩
        have BX := below_then BW B2
        replace Y0 := Y0.below B2
        replace Y1 := Y1.below B2
        clear a0 a1 a2 a3 a4 b0 b1 b2
        have a0 : w2.cell? ⟨w.heap.size, 0, none⟩ = some (.int .i64 V) := Y0.cell 0 rfl
        have a1 : w2.cell? ⟨w.heap.size, 1, none⟩ = some (.int .i64 (D : Int)) := Y0.cell 1 rfl
        have a2 : w2.cell? ⟨w.heap.size, 2, none⟩ = some (.int .i64 Hd) := Y0.cell 2 rfl
        have a3 : w2.cell? ⟨w.heap.size, 3, none⟩ = some (.int .i64 H) := Y0.cell 3 rfl
        have a4 : w2.cell? ⟨w.heap.size, 4, none⟩ = some (.int .i64 (vn : Int)) := Y0.cell 4 rfl
        have b0 : w2.cell? ⟨w.heap.size + 1, 0, none⟩ = some (.slice (some ⟨b, o, none⟩) k tz) := Y1.cell 0 rfl
        have b2 : w2.cell? ⟨w.heap.size + 1, 2, none⟩ = some (.slice va vn vz) := Y1.cell 2 rfl
        go_wp2_with fail
        refine (HV _ (hV.below BX)).mono ?_
        rintro e w3 ⟨rfl, B3⟩
        go_wp2
        go_ret
        exact ⟨rfl, below_then BX B3⟩
/-- A row of the call's own, told anew. -/
theorem owns_mono {w w' : World} {B B' n : Nat} {e : TypeId} {v : Value} {xs : List Value} (h : w.ownsRow B e 1 v n xs) (hB : B' ≤ B) (hb : ∀ b, v.ownBlock = some b → w'.heap[b]? = w.heap[b]?) : w'.ownsRow B' e 1 v n xs := by
  refine ⟨h.1, ?_⟩
  rcases h.2 with h3 | ⟨g, cap, cur, hv, hg, hh, h4⟩
  · exact .inl h3
  · subst hv
    exact .inr ⟨g, cap, cur, rfl, by omega, (hb g rfl).trans hh, h4⟩
/-- The block g of m lists: those ahead of place i read as A's, the others, which are full, as C's; they hang on the blocks that p tells. -/
structure KV (w : World) (g m i : Nat) (p : Nat → Prop) (A C : List (List (List Int))) : Prop where
  row : ∃ cs : Array Value, w.heap[g]? = some (.cells cs 77 (0, 0)) ∧ cs.size = m ∧
    (∀ t, t < i → ∃ ro n c vs, cs[t]? = some (.slice ro n c) ∧ (ro = none → c = 0) ∧ n ≤ c ∧ c ≤ 9223372036854775807 ∧ Hangs p w (fun w => GridV w ro n vs (A.getD t []))) ∧
    (∀ t, i ≤ t → t < m → ∃ ro n vs, cs[t]? = some (.slice ro n n) ∧ (ro = none → n = 0) ∧ Hangs p w (fun w => GridV w ro n vs (C.getD t [])))
theorem KV.lt {w : World} {g m i : Nat} {p : Nat → Prop} {A C : List (List (List Int))} (h : KV w g m i p A C) : g < w.heap.size := by
  obtain ⟨cs, h1, _⟩ := h.row
  exact (Array.getElem?_eq_some_iff.1 h1).1
theorem KV.below {w w' : World} {g m i : Nat} {p : Nat → Prop} {A C : List (List (List Int))} (h : KV w g m i p A C) (hb : Below w.heap.size w w') : KV w' g m i p A C := by
  have hl := h.lt
  obtain ⟨cs, h1, h2, h3, h4⟩ := h.row
  exact ⟨cs, (hb.block g hl).trans h1, h2, fun t ht => let ⟨ro, n, c, vs, e, q1, q2, q3, N⟩ := h3 t ht; ⟨ro, n, c, vs, e, q1, q2, q3, N.below hb⟩, fun t ht h5 => let ⟨ro, n, vs, e, q1, N⟩ := h4 t ht h5; ⟨ro, n, vs, e, q1, N.below hb⟩⟩
theorem KV.mono {w : World} {g m i : Nat} {p q : Nat → Prop} {A C : List (List (List Int))} (h : KV w g m i p A C) (hq : ∀ b, b < w.heap.size → p b → q b) : KV w g m i q A C := by
  obtain ⟨cs, h1, h2, h3, h4⟩ := h.row
  exact ⟨cs, h1, h2, fun t ht => let ⟨ro, n, c, vs, e, q1, q2, q3, N⟩ := h3 t ht; ⟨ro, n, c, vs, e, q1, q2, q3, N.mono hq⟩, fun t ht h5 => let ⟨ro, n, vs, e, q1, N⟩ := h4 t ht h5; ⟨ro, n, vs, e, q1, N.mono hq⟩⟩
theorem KV.other {w w' : World} {g m i : Nat} {p : Nat → Prop} {A C : List (List (List Int))} (h : KV w g m i p A C) (hs : w'.heap.size = w.heap.size) (hg : w'.heap[g]? = w.heap[g]?) (ho : ∀ b, p b → w'.heap[b]? = w.heap[b]?) : KV w' g m i p A C := by
  obtain ⟨cs, h1, h2, h3, h4⟩ := h.row
  exact ⟨cs, hg.trans h1, h2, fun t ht => let ⟨ro, n, c, vs, e, q1, q2, q3, N⟩ := h3 t ht; ⟨ro, n, c, vs, e, q1, q2, q3, N.other hs ho⟩, fun t ht h5 => let ⟨ro, n, vs, e, q1, N⟩ := h4 t ht h5; ⟨ro, n, vs, e, q1, N.other hs ho⟩⟩
theorem KV.put {w : World} {g m i : Nat} {p : Nat → Prop} {A C : List (List (List Int))} (h : KV w g m i p A C) {g2 : Nat} (hg : g2 ≠ g) (hp : ¬ p g2) (cs : Array Value) : KV (w.setRow g2 cs) g m i p A C :=
  h.other (by simp [World.setRow]) (setRow_other _ _ _ _ (Ne.symm hg)) fun b hb => setRow_other _ _ _ _ (fun e => hp (by rw [← e]; exact hb))
theorem KV.far {w : World} {g m i : Nat} {p : Nat → Prop} {A C : List (List (List Int))} (h : KV w g m i p A C) {a : Addr} (hg : a.block ≠ g) (hp : ¬ p a.block) (v : Value) : KV (w.setCell a v) g m i p A C :=
  h.other (by simp [World.setCell]) (Below.heap_setCell _ _ _ _ (Ne.symm hg)) fun b hb => Below.heap_setCell _ _ _ _ (fun e => hp (by rw [← e]; exact hb))
theorem KV.frozen {w : World} {g m i : Nat} {p : Nat → Prop} {A C : List (List (List Int))} (h : KV w g m i p A C) (t : Nat) : w.frozen? ⟨g, t, none⟩ = false := by
  obtain ⟨cs, h1, _⟩ := h.row
  unfold World.frozen?; simp only [h1]; rfl
/-- The list at place i. -/
theorem KV.at {w : World} {g m i : Nat} {p : Nat → Prop} {A C : List (List (List Int))} (h : KV w g m i p A C) (hi : i < m) : ∃ ro n vs, w.cell? ⟨g, i, none⟩ = some (.slice ro n n) ∧ (ro = none → n = 0) ∧ Hangs p w (fun w => GridV w ro n vs (C.getD i [])) := by
  obtain ⟨cs, h1, h2, h3, h4⟩ := h.row
  obtain ⟨ro, n, vs, e, q1, N⟩ := h4 i (Nat.le_refl _) hi
  refine ⟨ro, n, vs, ?_, q1, N⟩
  unfold World.cell?; simp only [h1]; exact e
/-- The list at place i is told anew. -/
theorem KV.step {w : World} {g m i : Nat} {p : Nat → Prop} {A C : List (List (List Int))} (h : KV w g m i p A C) (hi : i < m) (hp : ¬ p g) {ro : Option Addr} {n c : Nat} {vs : List Value} (q1 : ro = none → c = 0) (q2 : n ≤ c) (q3 : c ≤ 9223372036854775807) (N : Hangs p w fun w => GridV w ro n vs (A.getD i [])) : KV (w.setCell ⟨g, i, none⟩ (.slice ro n c)) g m (i + 1) p A C := by
  obtain ⟨cs, h1, h2, h3, h4⟩ := h.row
  refine ⟨cs.setIfInBounds i (.slice ro n c), by simp [World.setCell, Array.getElem?_modify, h1], by simpa using h2, fun t ht => ?_, fun t ht h5 => ?_⟩
  · rw [Array.getElem?_setIfInBounds]
    by_cases e : i = t
    · subst e
      rw [if_pos rfl, if_pos (by omega)]
      exact ⟨ro, n, c, vs, rfl, q1, q2, q3, N.set hp _⟩
    · rw [if_neg e]
      obtain ⟨ro', n', c', vs', e2, x1, x2, x3, N'⟩ := h3 t (by omega)
      exact ⟨ro', n', c', vs', e2, x1, x2, x3, N'.set hp _⟩
  · rw [Array.getElem?_setIfInBounds, if_neg (by omega)]
    obtain ⟨ro', n', vs', e2, x1, N'⟩ := h4 t (by omega) h5
    exact ⟨ro', n', vs', e2, x1, N'.set hp _⟩
theorem Lists.kv {w : World} {g m : Nat} {C : List (List (List Int))} (h : Lists w g m m C) (hl : C.length = m) (A : List (List (List Int))) : KV w g m 0 (fun b => g < b ∧ b < w.heap.size) A C := by
  obtain ⟨cs, h1, h2, h3⟩ := h.row
  refine ⟨cs, h1, h2, fun t ht => by omega, fun t _ ht => ?_⟩
  have e : C[t]? = some (C.getD t []) := by rw [List.getD_eq_getElem?_getD, List.getElem?_eq_getElem (by omega)]; rfl
  obtain ⟨ro, n, vs, e2, q1, N⟩ := h3 t _ ht e
  exact ⟨ro, n, vs, e2, q1, Hangs.mono N fun b hb h => ⟨h, hb⟩⟩
set_option maxRecDepth 100000 in
set_option maxHeartbeats 1600000 in
theorem scopy_any (v : VwV) (X : Vw) (A1 A2 : List (List (List Int))) (w : World) (hv : VwAt w v X) (hT : X.T.length ≤ 4096) (hk : X.K.length ≤ 4096) (hvl : X.V.length ≤ 4096) (hks : ∀ R ∈ X.K, R.length ≤ 4096 ∧ ∀ t, t < R.length → (rowOf R t).length ≤ 1048576) (hvs : ∀ R ∈ X.V, R.length ≤ 4096 ∧ ∀ t, t < R.length → (rowOf R t).length ≤ 1048576) :
   Calls Tryz.prog 35 #[.agg v.cells] w fun e w' => ∃ tv gk gv, e = .returned (.agg #[tv, .slice (some ⟨gk, 0, none⟩) X.K.length X.K.length, .slice (some ⟨gv, 0, none⟩) X.V.length X.V.length]) ∧ IOwn w' w.heap.size tv X.T.length X.T ∧ KV w' gk X.K.length 0 (fun b => gk < b ∧ b < gv) A1 X.K ∧ KV w' gv X.V.length 0 (fun b => gv < b) A2 X.V ∧ w.heap.size + 1 < gk ∧ gk < gv ∧ (∀ b, tv.ownBlock = some b → b < gk) ∧ Below w.heap.size w w' := by
  obtain ⟨⟨ta, tn, tz⟩, ⟨ka, kn, kz⟩, ⟨va, vn, vz⟩⟩ := v
  have aT := hv.t
  have aK := hv.k
  have aV := hv.v
  clear hv
  simp only at aT aK aV
  have hl := aT.row.len
  have kl := aK.len
  have vl := aV.len
  show Calls Tryz.prog 35 #[.agg #[.slice ta tn tz, .slice ka kn kz, .slice va vn vz]] w _
  have X0 := blk_new w 35 #[.slice ta tn tz, .slice ka kn kz, .slice va vn vz]
  have B0 : Below w.heap.size w (w.alloc (.cells #[.slice ta tn tz, .slice ka kn kz, .slice va vn vz] 35)) := (Below.refl _ _).alloc (Nat.le_refl _) _
  have s0 : (w.alloc (.cells #[.slice ta tn tz, .slice ka kn kz, .slice va vn vz] 35)).heap.size = w.heap.size + 1 := by simp
  generalize hw0 : w.alloc (.cells #[.slice ta tn tz, .slice ka kn kz, .slice va vn vz] 35) = w0 at *
  have X1 := blk_new w0 35 #[.slice none 0 0, .slice none 0 0, .slice none 0 0]
  have B1 : Below w0.heap.size w0 (w0.alloc (.cells #[.slice none 0 0, .slice none 0 0, .slice none 0 0] 35)) := (Below.refl _ _).alloc (Nat.le_refl _) _
  have s1 : (w0.alloc (.cells #[.slice none 0 0, .slice none 0 0, .slice none 0 0] 35)).heap.size = w0.heap.size + 1 := by simp
  rw [s0] at X1 s1
  generalize hw1 : w0.alloc (.cells #[.slice none 0 0, .slice none 0 0, .slice none 0 0] 35) = w1 at *
  replace X0 := X0.below B1
  replace B1 := below_then B0 B1
  go_enter Tryz.func35, Tryz.ntmps35
  go_wp2_with fail
  clear hw0 hw1 s0 B0
  replace X0 := X0.below ((Below.refl _ _).drew)
  replace X1 := X1.below ((Below.refl _ _).drew)
  replace B1 := B1.drew
  have aT1 := aT.below B1
  have s1' : w.heap.size + 1 + 1 ≤ w1.drew.heap.size := by show _ ≤ w1.heap.size; omega
  refine wp_region_held_drew (S := fun w' => Blk w' w.heap.size 35 #[.slice ta tn tz, .slice ka kn kz, .slice va vn vz]) (by kernel_rfl) (X0) (fun hHeld => ?_)
  refine wpAnyH_take (i := 0) (v := (.pointer (some ⟨w.heap.size, 0, none⟩))) rfl (by kernel_rfl) (by kernel_rfl) (by kernel_rfl) (fun _ _ _ h => h) (Or.inl ⟨by rfl, ?_⟩) (by assumption) ?_
  · intro w' hSw
    go_simp
  simp only [List.getElem_toArray, List.getElem_cons_zero, Act.put, List.setIfInBounds_toArray, List.set_cons_zero, List.set_cons_succ]
  refine wpAnyH_take (i := 1) (v := (.slice ta tn tz)) rfl (by kernel_rfl) (by kernel_rfl) (by kernel_rfl) (fun _ _ _ h => h) (Or.inl ⟨by rfl, ?_⟩) (by assumption) ?_
  · intro w' hSw
    have c0 : w'.cell? ⟨w.heap.size, 0, none⟩ = some (.slice ta tn tz) := hSw.cell 0 rfl
    go_simp
  simp only [List.getElem_toArray, List.getElem_cons_succ, List.getElem_cons_zero, Act.put, List.setIfInBounds_toArray, List.set_cons_zero, List.set_cons_succ]
  refine wpAnyH_take (i := 3) (v := (.pointer (some ⟨w.heap.size, 1, none⟩))) rfl (by kernel_rfl) (by kernel_rfl) (by kernel_rfl) (fun _ _ _ h => h) (Or.inl ⟨by rfl, ?_⟩) (by assumption) ?_
  · intro w' hSw
    go_simp
  simp only [List.getElem_toArray, List.getElem_cons_succ, List.getElem_cons_zero, Act.put, List.setIfInBounds_toArray, List.set_cons_zero, List.set_cons_succ]
  refine wpAnyH_take (i := 4) (v := (.pointer (some ⟨w.heap.size, 1, none⟩))) rfl (by kernel_rfl) (by kernel_rfl) (by kernel_rfl) (fun _ _ _ h => h) (Or.inl ⟨by rfl, ?_⟩) (by assumption) ?_
  · intro w' hSw
    go_simp
  simp only [List.getElem_toArray, List.getElem_cons_succ, List.getElem_cons_zero, Act.put, List.setIfInBounds_toArray, List.set_cons_zero, List.set_cons_succ]
  refine wpAnyH_take (i := 5) (v := (.slice ka kn kz)) rfl (by kernel_rfl) (by kernel_rfl) (by kernel_rfl) (fun _ _ _ h => h) (Or.inl ⟨by rfl, ?_⟩) (by assumption) ?_
  · intro w' hSw
    have c1 : w'.cell? ⟨w.heap.size, 1, none⟩ = some (.slice ka kn kz) := hSw.cell 1 rfl
    go_simp
  simp only [List.getElem_toArray, List.getElem_cons_succ, List.getElem_cons_zero, Act.put, List.setIfInBounds_toArray, List.set_cons_zero, List.set_cons_succ]
  refine wpAnyH_take (i := 7) (v := (.pointer (some ⟨w.heap.size, 1, none⟩))) rfl (by kernel_rfl) (by kernel_rfl) (by kernel_rfl) (fun _ _ _ h => h) (Or.inl ⟨by rfl, ?_⟩) (by assumption) ?_
  · intro w' hSw
    go_simp
  simp only [List.getElem_toArray, List.getElem_cons_succ, List.getElem_cons_zero, Act.put, List.setIfInBounds_toArray, List.set_cons_zero, List.set_cons_succ]
  refine wpAnyH_take (i := 8) (v := (.pointer (some ⟨w.heap.size, 2, none⟩))) rfl (by kernel_rfl) (by kernel_rfl) (by kernel_rfl) (fun _ _ _ h => h) (Or.inl ⟨by rfl, ?_⟩) (by assumption) ?_
  · intro w' hSw
    go_simp
  simp only [List.getElem_toArray, List.getElem_cons_succ, List.getElem_cons_zero, Act.put, List.setIfInBounds_toArray, List.set_cons_zero, List.set_cons_succ]
  refine wpAnyH_take (i := 9) (v := (.slice va vn vz)) rfl (by kernel_rfl) (by kernel_rfl) (by kernel_rfl) (fun _ _ _ h => h) (Or.inl ⟨by rfl, ?_⟩) (by assumption) ?_
  · intro w' hSw
    have c2 : w'.cell? ⟨w.heap.size, 2, none⟩ = some (.slice va vn vz) := hSw.cell 2 rfl
    go_simp
  simp only [List.getElem_toArray, List.getElem_cons_succ, List.getElem_cons_zero, Act.put, List.setIfInBounds_toArray, List.set_cons_zero, List.set_cons_succ]
  refine wpAnyH_ready (rs := [2]) (by kernel_rfl) (by simp) ?_
  refine AllReadyH.cons rfl (fun Kc hKc => ?_) AllReadyH.nil
  simp only [List.getElem_toArray, List.getElem_cons_succ, List.getElem_cons_zero]
  rw [if_pos (by rfl)]
  go_wp2_with fail
  refine (iclone_any _ _ _ X.T _ aT1 (by omega)).mono ?_
  rintro e w2 ⟨tv, rfl, O2, B2⟩
  replace X0 := X0.below B2
  replace X1 := X1.below B2
  have D2 := below_then B1 B2
  have s2 := B2.size
  have aK2 := aK.below D2
  go_wp2_with fail
  refine hKc.out _ _ (X0) (fun hHeld => ?_)
  clear hKc Kc
  refine wpAnyH_ready (rs := [6]) (by kernel_rfl) (by simp) ?_
  refine AllReadyH.cons rfl (fun Kc hKc => ?_) AllReadyH.nil
  simp only [List.getElem_toArray, List.getElem_cons_succ, List.getElem_cons_zero]
  rw [if_pos (by rfl)]
  go_wp2_with fail
  refine (copyLists_any _ _ _ X.K _ aK2 (by omega) hks).mono ?_
  rintro e w3 ⟨rfl, L3, B3⟩
  replace X0 := X0.below B3
  replace X1 := X1.below B3
  have O3 := owns_below O2 B3
  have D3 := below_then D2 B3
  have s3 := L3.lt
  have L3 := L3.kv kl A1
  have aV3 := aV.below D3
  go_wp2_with fail
  refine hKc.out _ _ (X0) (fun hHeld => ?_)
  clear hKc Kc
  refine wpAnyH_ready (rs := [10]) (by kernel_rfl) (by simp) ?_
  refine AllReadyH.cons rfl (fun Kc hKc => ?_) AllReadyH.nil
  simp only [List.getElem_toArray, List.getElem_cons_succ, List.getElem_cons_zero]
  rw [if_pos (by rfl)]
  go_wp2_with fail
  refine (copyLists_any _ _ _ X.V _ aV3 (by omega) hvs).mono ?_
  rintro e w4 ⟨rfl, L4, B4⟩
  replace X0 := X0.below B4
  replace X1 := X1.below B4
  have O4 := owns_below O3 B4
  replace L3 := L3.below B4
  have D4 := below_then D3 B4
  have hlt4 := fun b hb => (O2.lt b hb).2
  have L4 := (L4.kv vl A2).mono (q := fun b => w3.heap.size < b) fun b _ h => h.1
  go_wp2_with fail
  refine hKc.out _ _ (X0) (fun hHeld => ?_)
  clear hKc Kc
  obtain ⟨ta', tc', rfl⟩ : ∃ a c, tv = .slice a tn c := by
    rcases O4.2 with ⟨h3, h4⟩ | ⟨g, cap, cur, hv, _⟩
    · exact ⟨none, 0, by rw [h3, h4]⟩
    · exact ⟨_, _, hv⟩
  refine wpAnyH_take (i := 11) (v := (.agg #[.slice (some ⟨w2.heap.size, 0, none⟩) kn kn, .slice (some ⟨w3.heap.size, 0, none⟩) vn vn])) rfl (by kernel_rfl) (by kernel_rfl) (by kernel_rfl) (fun _ _ _ h => h) (Or.inl ⟨by rfl, ?_⟩) (by assumption) ?_
  · intro w' hSw
    go_simp
  simp only [List.getElem_toArray, List.getElem_cons_succ, List.getElem_cons_zero, Act.put, List.setIfInBounds_toArray, List.set_cons_zero, List.set_cons_succ]
  refine wpAnyH_take (i := 12) (v := (.agg #[.slice ta' tn tc', .slice (some ⟨w2.heap.size, 0, none⟩) kn kn, .slice (some ⟨w3.heap.size, 0, none⟩) vn vn])) rfl (by kernel_rfl) (by kernel_rfl) (by kernel_rfl) (fun _ _ _ h => h) (Or.inl ⟨by rfl, ?_⟩) (by assumption) ?_
  · intro w' hSw
    go_simp
  simp only [List.getElem_toArray, List.getElem_cons_succ, List.getElem_cons_zero, Act.put, List.setIfInBounds_toArray, List.set_cons_zero, List.set_cons_succ]
  refine wpAnyH_ready (rs := [13]) (by kernel_rfl) (by simp) ?_
  refine AllReadyH.cons rfl (fun Kc hKc => ?_) AllReadyH.nil
  simp only [List.getElem_toArray, List.getElem_cons_succ, List.getElem_cons_zero]
  rw [if_pos (by rfl)]
  have hall : Array.all (#[.slice ta' tn tc', .slice (some ⟨w2.heap.size, 0, none⟩) kn kn, .slice (some ⟨w3.heap.size, 0, none⟩) vn vn] : Array Value) (fun v => v.oneCell') = true := by simp [Value.oneCell']
  refine wp_store_row 35 _ _ rfl (w.heap.size + 1) #[.slice ta' tn tc', .slice (some ⟨w2.heap.size, 0, none⟩) kn kn, .slice (some ⟨w3.heap.size, 0, none⟩) vn vn] rfl rfl 35 _ X1 Tryz.infoV rfl hall ?_
  refine hKc.out _ _ (Blk.of_block X0 (setRow_other _ _ _ _ (by omega))) (fun hHeld => ?_)
  clear hKc Kc
  refine wpAnyH_done (by kernel_rfl) ?_ _
  clear hHeld
  go_wp2
  refine bodyPost_ret (results_cell_row rfl _ _ (w.heap.size + 1) 35 _ _ _ rfl (X1.row _) Tryz.underlying35 rfl Tryz.infoV) rfl ?_
  subst kl vl hl
  have so : ∀ (b : Nat) (x : Array Value), b ≠ w.heap.size + 1 → (w4.setRow (w.heap.size + 1) x).heap[b]? = w4.heap[b]? := fun b x hb => setRow_other _ _ _ _ hb
  refine ⟨_, _, _, rfl, ?_, ?_, ?_, by omega, by omega, hlt4, below_setRow D4 (by omega) _⟩
  · refine (owns_mono O4 (by omega) ?_)
    intro b hb
    have := (O2.lt b hb).1
    exact so b _ (by omega)
  · exact L3.put (by omega) (by omega) _
  · exact L4.put (by omega) (by omega) _
end Go.Proofs.YtmdjlaileakbeaaGreatDoor

/- A region that draws its order: what a store waits for may be taken first, though the store turns what was read. -/
namespace Go.Proofs.YtmdjlaileakbeaaGreatDoor
section
variable {P : Program} {ops : Array Oper} {Q : Exit → Act → World → Prop} {S : World → Prop} {z : Nat}
/-- Whatever comes up next; S holds as long as operation z hasn't come up. -/
def wpLate (P : Program) (ops : Array Oper) (Q : Exit → Act → World → Prop) (S : World → Prop) (z : Nat) : Nat → Array Bool → Act → World → Prop
  | 0, listed, a, w => Region.ready .any ops listed = [] ∧ Q .normal a w
  | fuel + 1, listed, a, w =>
    (Region.ready .any ops listed = [] → Q .normal a w) ∧
    ∀ i ∈ Region.ready .any ops listed, wpOp P ops Q i (fun a' w' => (i ≠ z → listed.getD z true = false → S w') ∧ wpLate P ops Q S z fuel (listed.setIfInBounds i true) a' w') a w
theorem wpAny_of_late : ∀ (fuel : Nat) (listed : Array Bool) (a : Act) (w : World), wpLate P ops Q S z fuel listed a w → wpAny P .any ops Q fuel listed a w
  | 0, _, _, _, h => h
  | fuel + 1, _, _, _, h => ⟨h.1, fun i hi => wpOp_mono (fun a' w' h' => wpAny_of_late fuel _ a' w' h'.2) (h.2 i hi)⟩
theorem wpLate_first {i : Nat} {oi oz : Oper} {v : Value} (hi : ops[i]? = some oi) (hz : ops[z]? = some oz) (hzi : ∃ e ∈ oz.after, Region.binds .any e = true ∧ e.on = i)
    (hsel : ∀ (j : Nat) (o : Oper) cs b, ops[j]? = some o → o.op ≠ .select cs b) (hQ : ∀ c a w, Q (.panic c) (a.put oi.dst v) w → Q (.panic c) a w) :
    ∀ (fuel : Nat) (listed : Array Bool) (a : Act) (w : World),
      (∀ j oj, ops[j]? = some oj → j ≠ i → listed.getD j true = false → (∀ e ∈ oj.after, Region.binds .any e = true → e.on ≠ i) → oi.apart ops oj = true) →
      i ∈ Region.ready .any ops listed → listed.getD z true = false → YieldsIf P ops S oi v a → S w →
      wpLate P ops Q S z fuel (listed.setIfInBounds i true) (a.put oi.dst v) w → wpLate P ops Q S z (fuel + 1) listed a w := by
  intro fuel
  induction fuel with
  | zero =>
    intro listed a w _ hr _ hy hS H
    refine ⟨fun h => (by rw [h] at hr; cases hr), fun j hj => ?_⟩
    by_cases hji : j = i
    · subst hji
      exact hy.wpOp hi hS ⟨fun _ _ => hS, H⟩
    · have hc := ready_mono hj hji
      rw [H.1] at hc
      cases hc
  | succ fuel ih =>
    intro listed a w hfree hr hu hy hS H
    refine ⟨fun h => (by rw [h] at hr; cases hr), fun j hj => ?_⟩
    by_cases hji : j = i
    · subst hji
      exact hy.wpOp hi hS ⟨fun _ _ => hS, H⟩
    · obtain ⟨hjun, oj, hoj, hall⟩ := mem_ready.1 hj
      have hnot : ∀ e ∈ oj.after, Region.binds .any e = true → e.on ≠ i := fun e he hb heq => by
        have h1 := hall e he hb
        have h0 := (mem_ready.1 hr).1
        rw [heq] at h1
        rcases Nat.lt_or_ge i listed.size with h' | h'
        · simp [h'] at h0 h1; rw [h0] at h1; cases h1
        · simp [Array.getElem?_eq_none h'] at h1
      have hjz : j ≠ z := by
        rintro rfl
        rw [hz] at hoj
        simp only [Option.some.injEq] at hoj
        subst hoj
        obtain ⟨e, h1, h2, h3⟩ := hzi
        exact hnot e h1 h2 h3
      have hiz : i ≠ z := by
        rintro rfl
        rw [hi] at hz
        simp only [Option.some.injEq] at hz
        subst hz
        obtain ⟨e, h1, h2, h3⟩ := hzi
        obtain ⟨hun, o', ho', hall'⟩ := mem_ready.1 hr
        rw [hi] at ho'
        simp only [Option.some.injEq] at ho'
        subst ho'
        have h4 := hall' e h1 h2
        rw [h3] at h4
        rcases Nat.lt_or_ge i listed.size with h' | h'
        · simp [h'] at hun h4; rw [hun] at h4; cases h4
        · simp [Array.getElem?_eq_none h'] at h4
      have h2 := wpOp_putIf hoj (hfree j oj hoj hji hjun hnot) (fun cs b => hsel i oi cs b hi) (fun cs b => hsel j oj cs b hoj) hQ hy (H.2 j (ready_mono hj hji))
      have hfree' : ∀ k ok, ops[k]? = some ok → k ≠ i → (listed.setIfInBounds j true).getD k true = false →
          (∀ e ∈ ok.after, Region.binds .any e = true → e.on ≠ i) → oi.apart ops ok = true := fun k ok hk hki hun hno => by
        refine hfree k ok hk hki ?_ hno
        by_cases hjk : j = k
        · subst hjk; exact hjun
        · rw [getD_set_ne true hjk] at hun; exact hun
      refine wpOp_mono (fun a' w' h3 => ?_) h2
      have hS' : S w' := h3.2.1 hjz (by rw [getD_set_ne true hiz]; exact hu)
      refine ⟨fun _ _ => hS', ih (listed.setIfInBounds j true) a' w' hfree' (ready_mono hr (Ne.symm hji)) (by rw [getD_set_ne true hjz]; exact hu) h3.1 hS' ?_⟩
      rw [Array.setIfInBounds_comm _ _ hji]
      exact h3.2.2
/-- The same of an operation that yields its value in whatever world: z needn't wait for it. -/
theorem wpLate_plain {i : Nat} {oi : Oper} {v : Value} (hi : ops[i]? = some oi) (hiz : i ≠ z)
    (hsel : ∀ (j : Nat) (o : Oper) cs b, ops[j]? = some o → o.op ≠ .select cs b) (hQ : ∀ c a w, Q (.panic c) (a.put oi.dst v) w → Q (.panic c) a w) :
    ∀ (fuel : Nat) (listed : Array Bool) (a : Act) (w : World),
      (∀ j oj, ops[j]? = some oj → j ≠ i → listed.getD j true = false → (∀ e ∈ oj.after, Region.binds .any e = true → e.on ≠ i) → oi.apart ops oj = true) →
      i ∈ Region.ready .any ops listed → (listed.getD z true = false → S w) → YieldsIf P ops (fun _ => True) oi v a →
      wpLate P ops Q S z fuel (listed.setIfInBounds i true) (a.put oi.dst v) w → wpLate P ops Q S z (fuel + 1) listed a w := by
  intro fuel
  induction fuel with
  | zero =>
    intro listed a w _ hr hS hy H
    refine ⟨fun h => (by rw [h] at hr; cases hr), fun j hj => ?_⟩
    by_cases hji : j = i
    · subst hji
      exact hy.wpOp hi trivial ⟨fun _ => hS, H⟩
    · have hc := ready_mono hj hji
      rw [H.1] at hc
      cases hc
  | succ fuel ih =>
    intro listed a w hfree hr hS hy H
    refine ⟨fun h => (by rw [h] at hr; cases hr), fun j hj => ?_⟩
    by_cases hji : j = i
    · subst hji
      exact hy.wpOp hi trivial ⟨fun _ => hS, H⟩
    · obtain ⟨hjun, oj, hoj, hall⟩ := mem_ready.1 hj
      have hnot : ∀ e ∈ oj.after, Region.binds .any e = true → e.on ≠ i := fun e he hb heq => by
        have h1 := hall e he hb
        have h0 := (mem_ready.1 hr).1
        rw [heq] at h1
        rcases Nat.lt_or_ge i listed.size with h' | h'
        · simp [h'] at h0 h1; rw [h0] at h1; cases h1
        · simp [Array.getElem?_eq_none h'] at h1
      have h2 := wpOp_putIf hoj (hfree j oj hoj hji hjun hnot) (fun cs b => hsel i oi cs b hi) (fun cs b => hsel j oj cs b hoj) hQ hy (H.2 j (ready_mono hj hji))
      have hfree' : ∀ k ok, ops[k]? = some ok → k ≠ i → (listed.setIfInBounds j true).getD k true = false →
          (∀ e ∈ ok.after, Region.binds .any e = true → e.on ≠ i) → oi.apart ops ok = true := fun k ok hk hki hun hno => by
        refine hfree k ok hk hki ?_ hno
        by_cases hjk : j = k
        · subst hjk; exact hjun
        · rw [getD_set_ne true hjk] at hun; exact hun
      refine wpOp_mono (fun a' w' h3 => ?_) h2
      have hS' : j ≠ z → listed.getD z true = false → S w' := fun hjz hu => h3.2.1 hjz (by rw [getD_set_ne true hiz]; exact hu)
      refine ⟨hS', ih (listed.setIfInBounds j true) a' w' hfree' (ready_mono hr (Ne.symm hji)) (fun hu => ?_) h3.1 ?_⟩
      · by_cases hjz : j = z
        · subst hjz
          have hlt : j < listed.size := by
            rcases Nat.lt_or_ge j listed.size with h' | h'
            · exact h'
            · simp [h'] at hjun
          simp [hlt] at hu
        · exact hS' hjz (by rw [getD_set_ne true hjz] at hu; exact hu)
      · rw [Array.setIfInBounds_comm _ _ hji]
        exact h3.2.2
/-- Does operation z wait for i? -/
def waitsOn (ops : Array Oper) (z i : Nat) : Bool := ((ops[z]?).map fun o => o.after.any fun e => Region.binds .any e && (e.on == i)).getD false
theorem waitsOn_spec {i : Nat} (h : waitsOn ops z i = true) : ∃ oz, ops[z]? = some oz ∧ ∃ e ∈ oz.after, Region.binds .any e = true ∧ e.on = i := by
  unfold waitsOn at h
  cases e : ops[z]? with
  | none => rw [e] at h; simp at h
  | some oz =>
    rw [e] at h
    simp only [Option.map_some, Option.getD_some, Array.any_eq_true, Bool.and_eq_true, beq_iff_eq] at h
    obtain ⟨k, hk, h1, h2⟩ := h
    exact ⟨oz, rfl, _, Array.getElem_mem hk, h1, h2⟩
/-- Take number i first. -/
theorem wpLate_take {i : Nat} {oi : Oper} {v : Value} {fuel : Nat} {listed : Array Bool} {a : Act} {w : World} (hi : ops[i]? = some oi) (hz : waitsOn ops z i = true) (hu : listed.getD z true = false)
    (hs : Region.noSelect ops = true) (hf : Region.free .any ops listed i = true) (hr : (Region.ready .any ops listed).contains i = true)
    (hQ : ∀ c a w, Q (.panic c) (a.put oi.dst v) w → Q (.panic c) a w) (hy : YieldsIf P ops S oi v a) (hS : S w)
    (h : wpLate P ops Q S z fuel (listed.setIfInBounds i true) (a.put oi.dst v) w) : wpLate P ops Q S z (fuel + 1) listed a w := by
  obtain ⟨oz, h1, h2⟩ := waitsOn_spec hz
  exact wpLate_first hi h1 h2 (Region.noSelect_spec hs) hQ fuel listed a w (Region.free_spec hi hf) (by simpa using hr) hu hy hS h
/-- Take number i first: it yields its value in whatever world. -/
theorem wpLate_pure {i : Nat} {oi : Oper} {v : Value} {fuel : Nat} {listed : Array Bool} {a : Act} {w : World} (hi : ops[i]? = some oi) (hiz : i ≠ z)
    (hs : Region.noSelect ops = true) (hf : Region.free .any ops listed i = true) (hr : (Region.ready .any ops listed).contains i = true)
    (hQ : ∀ c a w, Q (.panic c) (a.put oi.dst v) w → Q (.panic c) a w) (hy : YieldsIf P ops (fun _ => True) oi v a) (hS : listed.getD z true = false → S w)
    (h : wpLate P ops Q S z fuel (listed.setIfInBounds i true) (a.put oi.dst v) w) : wpLate P ops Q S z (fuel + 1) listed a w :=
  wpLate_plain hi hiz (Region.noSelect_spec hs) hQ fuel listed a w (Region.free_spec hi hf) (by simpa using hr) hS hy h
/-- One of those that may come up. -/
theorem wpLate_nil {fuel : Nat} {listed : Array Bool} {a : Act} {w : World} : ∀ i ∈ ([] : List Nat), wpOp P ops Q i (fun a' w' => (i ≠ z → listed.getD z true = false → S w') ∧ wpLate P ops Q S z fuel (listed.setIfInBounds i true) a' w') a w := fun _ h => by cases h
theorem wpLate_cons {fuel : Nat} {listed : Array Bool} {a : Act} {w : World} {i : Nat} {o : Oper} {rs : List Nat} (ho : ops[i]? = some o)
    (h : ∀ K' : Act → World → Prop, Shut (∀ a w, (i ≠ z → listed.getD z true = false → S w) → wpLate P ops Q S z fuel (listed.setIfInBounds i true) a w → K' a w) → if Region.wanted o (yielded ops a.tmps) = true then Oper.wp P o a w K' Q else K' (a.put o.dst undef) w)
    (hs : ∀ j ∈ rs, wpOp P ops Q j (fun a' w' => (j ≠ z → listed.getD z true = false → S w') ∧ wpLate P ops Q S z fuel (listed.setIfInBounds j true) a' w') a w) :
    ∀ j ∈ i :: rs, wpOp P ops Q j (fun a' w' => (j ≠ z → listed.getD z true = false → S w') ∧ wpLate P ops Q S z fuel (listed.setIfInBounds j true) a' w') a w := fun j hj => by
  rcases List.mem_cons.1 hj with rfl | hj
  · exact wpOp_step ho (fun K' hK => h K' (fun a w hS hW => hK a w ⟨hS, hW⟩))
  · exact hs j hj
theorem wpLate_ready {rs : List Nat} {fuel : Nat} {listed : Array Bool} {a : Act} {w : World} (hr : Region.ready .any ops listed = rs) (hne : rs ≠ [])
    (h : ∀ i ∈ rs, wpOp P ops Q i (fun a' w' => (i ≠ z → listed.getD z true = false → S w') ∧ wpLate P ops Q S z fuel (listed.setIfInBounds i true) a' w') a w) : wpLate P ops Q S z (fuel + 1) listed a w :=
  ⟨fun h0 => absurd (hr ▸ h0) hne, hr ▸ h⟩
theorem wpLate_done {listed : Array Bool} {a : Act} {w : World} (hr : Region.ready .any ops listed = []) (h : Q .normal a w) : ∀ fuel, wpLate P ops Q S z fuel listed a w
  | 0 => ⟨hr, h⟩
  | _ + 1 => ⟨fun _ => h, by rw [hr]; simp⟩
theorem wp_region_late {id : Nat} {a : Act} {w : World} (z : Nat) (hm : P.follows .mixedOrders = true) (hS : S w.drew)
    (h : S w.drew → wpLate P ops Q S z ops.size (Array.replicate ops.size false) a w.drew) : (Code.region id ops true).wp P Q a w :=
  wp_region_any hm (wpAny_of_late _ _ _ _ (h hS))
end
end Go.Proofs.YtmdjlaileakbeaaGreatDoor

/- Package step: append of a row to a full list of rows; what a token more makes of a view. -/
namespace Go.Proofs.YtmdjlaileakbeaaGreatDoor
open Go.ChangeShapes Go.WideShapes Go.ChangeAt Go.RowKit
theorem front_get (l : List Value) (z : Array Value) {j : Nat} {u : Value} (h : l[j]? = some u) : (l.toArray ++ z)[j]? = some u := by
  have hj := (List.getElem?_eq_some_iff.1 h).1
  rw [Array.getElem?_append_left (by simpa using hj)]
  simpa using h
/-- append(rows, row), rows a full list. -/
theorem wp_append_full {o : Oper} {a : Act} {w : World} {K : Act → World → Prop} {Q : Exit → Act → World → Prop} (s x : Operand) (hop : o.op = .call { callee := .builtin .append, args := #[s, x], argTypes := #[77, 77] })
    (p : Nat → Prop) (ro : Option Addr) (n : Nat) (vs : List Value) (R : List (List Int)) (hs : a.eval s = .slice ro n n) (hnil : ro = none → n = 0) (hG : Hangs p w (fun w => GridV w ro n vs R))
    (bo g1 m1 c1 : Nat) (Y : List Int) (hx : a.eval x = .slice (some ⟨bo, 0, none⟩) 1 1) (hX : w.cell? ⟨bo, 0, none⟩ = some (.slice (some ⟨g1, 0, none⟩) m1 c1)) (hY : Hangs p w (fun w => Arg w (some ⟨g1, 0, none⟩) m1 c1 Y)) (hn : n ≤ 4096) (hp : p w.heap.size)
    (h : ∀ cap w', n + 1 ≤ cap → cap ≤ 9223372036854775807 → Hangs p w' (fun wv => GridV wv (some ⟨w.heap.size, 0, none⟩) (n + 1) (vs ++ [.slice (some ⟨g1, 0, none⟩) m1 c1]) (R ++ [Y])) → Below w.heap.size w w' → K (a.put o.dst (.slice (some ⟨w.heap.size, 0, none⟩) (n + 1) cap)) w') : Oper.wp Tryz.prog o a w K Q := by
  obtain ⟨i0, hi, hz0, hz1, hz2⟩ := info_parts Tryz.infoRow
  have hnews : ∀ j u, [Value.slice (some ⟨g1, 0, none⟩) m1 c1][j]? = some u → w.cell? ((Addr.mk bo 0 none).add j) = some u := by
    intro j u hj
    match j, hj with
    | 0, hj =>
      simp at hj
      subst hj
      have e2 : (Addr.mk bo 0 none).add 0 = ⟨bo, 0, none⟩ := by simp [Addr.add]
      rw [e2, hX]
  have hgo : ∀ (cs : Array Value) (cap : Nat), (∀ (j : Nat) (u : Value), (vs ++ [.slice (some ⟨g1, 0, none⟩) m1 c1])[j]? = some u → cs[j]? = some u) → n + 1 ≤ cap → cap ≤ 9223372036854775807 → K (a.put o.dst (.slice (some ⟨w.heap.size, 0, none⟩) (n + 1) cap)) (w.drew.alloc (.cells cs 24)) := by
    intro cs cap hcs h1 h2
    have hb : Below w.heap.size w (w.drew.alloc (.cells cs 24)) := ((Below.refl _ _).drew).alloc (Nat.le_refl _) _
    refine h cap _ h1 h2 (fun w2 h3 => ?_) hb
    have hnew := heap_alloc_new w.drew (.cells cs 24)
    have hg : w2.heap[w.heap.size]? = some (.cells cs 24 (0, 0)) := (h3 w.heap.size hp (by simp)).trans hnew
    have ho : ∀ b, p b → b < w.heap.size → w2.heap[b]? = w.heap[b]? := fun b hb1 hb2 => (h3 b hb1 (Nat.lt_of_lt_of_le hb2 hb.size)).trans (hb.block b hb2)
    have V := hG w2 ho
    have A := hY w2 ho
    refine ⟨V.rows.snoc A, by simp [V.len], by omega, fun _ => ⟨w.heap.size, 0, rfl, fun j u hj => ?_⟩⟩
    rw [Nat.zero_add]
    unfold World.cell?
    simp only [hg]
    exact hcs j u hj
  have V0 := hG.now
  have hmx := fun (nd od : Nat) (hh : nd ≤ maxLen) => grownCap_le_maxLen w nd od 24 hh
  have hge := fun (nd od : Nat) => grownCap_ge w nd od 24
  cases ro with
  | none =>
    obtain rfl : n = 0 := hnil rfl
    obtain rfl : vs = [] := List.length_eq_zero_iff.1 V0.len
    have hrun := run_append_nil (P := Tryz.prog) w 77 o.type 24 i0 (.slice none 0 0) Tryz.underlying77 hi hz0 ⟨bo, 0, none⟩ 1 1 [.slice (some ⟨g1, 0, none⟩) m1 c1] (by simp [hz1]) hnews (by omega) (by omega) (by rw [hz2]; omega)
    unfold Oper.wp
    simp [execOp, hop, resolve, invoke, builtin, hs, hx, hrun, Result.andThen]
    refine hgo _ _ (fun j u hj => ?_) (hge 1 0) (by have := hmx 1 0 (by decide); unfold maxLen at this; omega)
    exact front_get [.slice (some ⟨g1, 0, none⟩) m1 c1] _ hj
  | some ad =>
    have holds : ∀ j v, vs[j]? = some v → w.cell? (ad.add j) = some v := fun j v hj => by
      have hjn : j < n := by rw [← V0.len]; exact (List.getElem?_eq_some_iff.1 hj).1
      obtain ⟨b, o', e, hc⟩ := V0.cells (by omega)
      simp only [Option.some.injEq] at e
      subst e
      have e2 : (Addr.mk b o' none).add j = ⟨b, o' + j, none⟩ := by simp [Addr.add]
      rw [e2]
      exact hc j v hj
    have hrun := run_append_grow (P := Tryz.prog) w 77 o.type 24 i0 (.slice none 0 0) Tryz.underlying77 hi hz0 ad n n vs (by rw [hz1, V0.len]; omega) holds ⟨bo, 0, none⟩ 1 1 [.slice (some ⟨g1, 0, none⟩) m1 c1] (by simp [hz1]) hnews (by omega) (by omega) (growslice_fits (by omega) (by rw [hz2]; omega))
    unfold Oper.wp
    simp [execOp, hop, resolve, invoke, builtin, hs, hx, hrun, Result.andThen]
    refine hgo _ _ (fun j u hj => ?_) (hge (n + 1) n) (by have := hmx (n + 1) n (by unfold maxLen; omega); unfold maxLen at this; omega)
    exact front_get (vs ++ [.slice (some ⟨g1, 0, none⟩) m1 c1]) _ hj
end Go.Proofs.YtmdjlaileakbeaaGreatDoor
