/- Contracts of the program's functions, part 8 of 8: what each call returns and leaves of memory. -/
import Derived.Test.YtpecklilkieffaaDoorPk7
import Derived.Test.YtpecklilkieffaaDoorPk4
import Derived.Test.YtpecklilkieffaaDoorPk1
import Derived.LaidMore
import Derived.Lib.LaidTab
import Derived.Stop.Joined
import Derived.Test.YtpecklilkieffaaDoorPk3
/- append onto a row of the call's own: the row that was there stays as it was. -/
namespace Go.Proofs.YtpecklilkieffaaDoor
open Go.ChangeShapes Go.WideShapes Go.ChangeAt Go.RowKit
section
variable {P : Program} (w : World)
theorem run_append_own3 (base : Nat) (t ty e : TypeId) (i : TypeInfo) (z : Value) (bytes : Nat) (ht : P.underlying t = some (.slice e)) (hi : P.info? e = some i) (hz : i.zero = some z)
    (hsize : i.size = 1) (hby : i.bytes = bytes) (hzs : z.cells.size = 1)
    (v : Value) (n : Nat) (xs : List Value) (hown : w.ownsRow base e 1 v n xs)
    (a : Addr) (m c : Nat) (news : List Value) (hl : news.length = m) (hnews : ∀ j u, news[j]? = some u → w.cell? (a.add j) = some u) (h1 : ∀ u ∈ news, u.oneCell' = true)
    (h63 : n + m ≤ maxLen) (hbytes : (n + m) * bytes ≤ 140737488355328) (hbase : base ≤ w.heap.size) :
    ∃ v' w', (Builtin.append_ #[t, t] ty #[v, .slice (some a) m c]).run P w = .ok v' w' ∧ w'.ownsRow base e 1 v' (n + m) (xs ++ news) ∧ w.grownBy w' v.ownBlock ∧ w'.ownsRow base e 1 v n xs := by
  obtain ⟨v', w', hr, h2, h3, h4⟩ := run_append_own (P := P) w base t ty e i z 1 bytes ht hi hz hsize hby hzs (by decide) v n xs hown a m c news (by omega) hnews h1 h63 hbytes hbase
  refine ⟨v', w', hr, h2, h3, ?_⟩
  have hl1 : news.length = m * i.size := by rw [hsize]; omega
  subst hby
  have hsmall : n + m ≤ 9223372036854775807 := by simp only [maxLen] at h63; omega
  rcases hown.2 with ⟨rfl, rfl⟩ | ⟨g, cap, cur, rfl, hbg, hg, hnc, hcm, hcs, htake⟩
  · have hx : xs = [] := List.eq_nil_of_length_eq_zero (by simpa using hown.1)
    subst hx
    exact World.ownsRow_nil _ _ _ _
  · have hxl : xs.length = n := by have := hown.1; omega
    by_cases hroom : n + m ≤ cap
    · have hfit : n * i.size + news.length ≤ cur.size := by rw [hl, hcs, hsize]; omega
      have hr2 := run_append_room (P := P) w t ty e i ht hi g n cap cur hg a m c news hl1 hnews h1 hroom hfit
      rw [hr] at hr2
      injection hr2 with e1 e2
      subst e2
      refine ⟨hown.1, .inr ⟨g, cap, _, rfl, hbg, setRow_heap w g cur _ e _ hg, hnc, hcm, ?_, ?_⟩⟩
      · simp only [List.size_toArray, List.length_append, List.length_take, List.length_drop, Array.length_toList, hsize]
        omega
      · rw [hsize]
        rw [htake, List.append_assoc, ← hown.1]
        exact List.take_left
    · have holds : ∀ j u, xs[j]? = some u → w.cell? ((⟨g, 0, none⟩ : Addr).add j) = some u := hown.cells (g := g) rfl
      have hr2 := run_append_grow (P := P) w t ty e i z ht hi hz ⟨g, 0, none⟩ n cap xs (by rw [hsize]; omega) holds a m c news hl1 hnews (by omega) (by omega) (growslice_fits (by omega) hbytes)
      rw [hr] at hr2
      injection hr2 with e1 e2
      subst e2
      have hlt : g < w.heap.size := (Array.getElem?_eq_some_iff.1 hg).1
      exact ⟨hown.1, .inr ⟨g, cap, cur, rfl, hbg, (heap_alloc_old w.drew _ hlt).trans hg, hnc, hcm, hcs, htake⟩⟩
end
/-- append(out, x), out a row of whole numbers of the call's own, as one operation. -/
theorem wp_append_int {w : World} {o : Oper} {a : Act} {K : Act → World → Prop} {Q : Exit → Act → World → Prop} (s x : Operand) (ho : o.op = .call { callee := .builtin .append, args := #[s, x], argTypes := #[25, 25] })
    (B : Nat) (v : Value) (n : Nat) (A : List Int) (hs : a.eval s = v) (hown : IOwn w B v n A) (bo : Nat) (y : Int) (hx : a.eval x = .slice (some ⟨bo, 0, none⟩) 1 1) (hX : w.cell? ⟨bo, 0, none⟩ = some (.int .i64 y)) (hn : n ≤ 4096) (hB : B ≤ w.heap.size)
    (h : ∀ v' w', IOwn w' B v' (n + 1) (A ++ [y]) → IOwn w' B v n A → w.grownBy w' v.ownBlock → Below B w w' → K (a.put o.dst v') w') : o.wp Tryd.prog a w K Q := by
  obtain ⟨i0, hi, hz0, hz1, hz2⟩ := info_parts Tryd.infoInt
  have hnews : ∀ j u, ([y].map (Value.int .i64))[j]? = some u → w.cell? ((Addr.mk bo 0 none).add j) = some u := by
    intro j u hj
    match j, hj with
    | 0, hj =>
      simp at hj
      subst hj
      have e2 : (Addr.mk bo 0 none).add 0 = ⟨bo, 0, none⟩ := by simp [Addr.add]
      rw [e2, hX]
  obtain ⟨v', w', hr, h2, h3, h4⟩ := run_append_own3 (P := Tryd.prog) w B 25 o.type 3 i0 (.int .i64 0) 8 Tryd.underlying25 hi hz0 hz1 hz2 rfl v n _ hown ⟨bo, 0, none⟩ 1 1 ([y].map (Value.int .i64)) rfl hnews (ints_oneCell _ _) (by unfold maxLen; omega) (by omega) hB
  unfold Oper.wp execOp
  simp only [ho, resolve, invoke, builtin, Sem.run_bind, Sem.run_pure, Result.andThen_ok, List.map_toArray, List.map_cons, List.map_nil, hs, hx, hr]
  exact h v' w' (by unfold IOwn; rw [List.map_append]; exact h2) h4 h3 ((Below.refl _ _).grown h3 hB (fun k hk => (hown.lt k hk).1))
/-- An operation that is wanted. -/
theorem wpList_run {w : World} {ops : Array Oper} {rest : List Oper} {o : Oper} {a : Act} {Q : Exit → Act → World → Prop} (hw : Region.wanted o (yielded ops a.tmps) = true) (h : ∀ K, (∀ a w, wpList Tryd.prog ops Q rest a w → K a w) → Oper.wp Tryd.prog o a w K Q) : wpList Tryd.prog ops Q (o :: rest) a w := by
  simp only [wpList, hw, if_true]
  exact Or.inl (h _ fun a w h => h)
end Go.Proofs.YtpecklilkieffaaDoor

/- The table of steps lies in its block, wherever the row's listed variable reads as listed. -/
namespace Go.Proofs.YtpecklilkieffaaDoor
open Go.ChangeShapes Go.WideShapes Go.ChangeAt Go.RowKit
theorem gSteps : Tryd.prog.globalNamed "tiller/curve.steps" = some 0 := by kernel_rfl
theorem tSteps : (Tryd.prog.globals[0]?).map (·.type) = some 119 := by kernel_rfl
theorem cSteps : Tryd.prog.cellsOf 119 = 65 := by kernel_rfl
theorem cNum : Tryd.prog.cellsOf 28 = 1 := by kernel_rfl
theorem tab_of_laid {W : World} (h : laidMetH Tryd.prog [("tiller/curve.steps", Rows.laid_tiller_curve_steps)] W) : Tab W := by
  rw [MakeChecks.laidMetH_plain _ _ _ (by kernel_rfl)] at h
  have h' : laidMet Tryd.prog [("tiller/curve.steps", Lib.tabData .i32 (stp.map fun (n : Nat) => (n : Int)))] W := h
  have ht := Lib.tabIs_of_head gSteps tSteps Tryd.underlying119 Tryd.underlying28 cNum cSteps h'
  unfold Lib.TabIs World.var? at ht
  rw [gSteps] at ht
  simp only [Option.bind_some] at ht
  split at ht
  · rename_i cs t fr hc
    refine ⟨t, fr, ?_⟩
    rw [hc]
    simp only [Option.some.injEq] at ht
    rw [ht]
    simp [tabCells]
  · cases ht
end Go.Proofs.YtpecklilkieffaaDoor

/- An argument that is a row of whole numbers, opened once: nil, empty or not. -/
namespace Go.Proofs.YtpecklilkieffaaDoor
open Go.ChangeShapes Go.WideShapes Go.ChangeAt Go.RowKit
theorem Tryd.cellsInt : Tryd.prog.cellsOf 3 = 1 := by kernel_rfl
theorem viewI_cells {H : Type} {enc : TypeId × Value → H} {W : World} {fuel : Nat} {cs : List Value} {x : DataW H × List MemPlace}
    (hf : DataW.trod enc Tryd.prog W 0 (fun _ => true) true fuel 25 cs = some x) :
    ∃ (a0 : Option Addr) (len cap : Nat) (Z : List Int), cs = [.slice a0 len cap] ∧ IArg W a0 len cap Z := by
  rcases open_ints Tryd.underlying25 Tryd.underlying3 Tryd.cellsInt hf with ⟨hcs, hx⟩ | ⟨a, len', cap', zs, hcs, _, hl, hm, hz, hx, hcell, hwz⟩
  · exact ⟨none, 0, 0, [], hcs, iarg_nil _⟩
  · simp only [if_true] at hz
    unfold maxLen at hm
    refine ⟨some a, len', cap', zs.take len', hcs, ⟨by simp; omega, by omega, fun k => ?_, fun hn => ?_⟩, hl, by omega, fun h => by cases h⟩
    · rcases Nat.lt_or_ge k (zs.take len').length with hk | hk
      · exact bounds_i64 (hwz _ (List.mem_of_mem_take (el_mem hk)))
      · rw [el_over hk]; omega
    · obtain ⟨b, o, s⟩ := a
      have h0 := hcell 0 (by omega)
      have hs : s = none := by simpa [Addr.add] using World.cell?_spot h0
      subst hs
      refine ⟨b, o, rfl, fun t ht => ?_⟩
      have e : (Addr.mk b o none).add t = ⟨b, o + t, none⟩ := by simp [Addr.add]
      rw [← e, hcell t (by omega), el_take ht]
      rfl
set_option maxRecDepth 100000 in
theorem viewI {H : Type} {enc : TypeId × Value → H} {W : World} {b0 : Nat} {v : Value} {d : DataW H} {p : List MemPlace} (hv : Value.okWide Tryd.prog W .any b0 25 v)
    (h : DataW.Trod enc Tryd.prog W 0 (fun _ => true) true 25 v d p) : ∃ (a0 : Option Addr) (len cap : Nat) (Z : List Int), v = .slice a0 len cap ∧ IArg W a0 len cap Z := by
  obtain ⟨a0, la, ca, rfl⟩ := okWide_slice Tryd.underlying25 hv
  obtain ⟨f, hf⟩ := h
  obtain ⟨a1, l1, c1, Z, e, hA⟩ := viewI_cells hf
  simp [Value.cells] at e
  obtain ⟨rfl, rfl, rfl⟩ := e
  exact ⟨_, _, _, Z, rfl, hA⟩
end Go.Proofs.YtpecklilkieffaaDoor
