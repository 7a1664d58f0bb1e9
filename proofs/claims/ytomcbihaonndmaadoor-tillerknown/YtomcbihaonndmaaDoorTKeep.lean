/- Trie's grow and Put once more: what is no node and no map of the trie stays. -/
import Derived.Test.YtomcbihaonndmaaDoorTSome
namespace Go.Proofs.YtomcbihaonndmaaDoor
open Go.ChangeShapes Go.WideShapes Go.ChangeAt Go.RowKit Go.Maps
/-- Between w and w' blocks that are none of S stay, and are none of S'. -/
def KKeep (w w' : World) (S S' : TS) : Prop := ∀ x, x < w.heap.size → (∀ p, S.nd p ≠ some x) → (∀ p, S.mp p ≠ some x) → w'.heap[x]? = w.heap[x]? ∧ (∀ p, S'.nd p ≠ some x) ∧ (∀ p, S'.mp p ≠ some x)
/-- A block of cells whose first is no map. -/
structure XBlk (w : World) (x : Nat) : Prop where
  cells : ∃ cur t fr, w.heap[x]? = some (.cells cur t fr)
  no : ∀ m, w.cell? ⟨x, 0, none⟩ ≠ some (.map m)
theorem XBlk.lt {w : World} {x : Nat} (h : XBlk w x) : x < w.heap.size := by
  obtain ⟨cur, t, fr, e⟩ := h.cells
  exact (Array.getElem?_eq_some_iff.1 e).1
theorem XBlk.nd {w : World} {x B tb NB cnt : Nat} {S : TS} (h : XBlk w x) (hT : TI w B tb S NB cnt) (p : List Int) : S.nd p ≠ some x := fun e => h.no _ (hT.c0 p x e)
theorem MapOf.not_cells {w : World} {b n : Nat} {f : Int → Option Nat} (h : MapOf w b n f) (cur : Array Value) (t : TypeId) (fr : Nat × Nat) : w.heap[b]? ≠ some (.cells cur t fr) := by
  intro e
  obtain ⟨D, ⟨es, clock, h1, _⟩, _⟩ := h
  rw [h1] at e
  cases e
theorem XBlk.mp {w : World} {x B tb NB cnt : Nat} {S : TS} (h : XBlk w x) (hT : TI w B tb S NB cnt) (p : List Int) : S.mp p ≠ some x := fun e => by
  obtain ⟨n, _, hm⟩ := hT.m1 p x e
  obtain ⟨cur, t, fr, e2⟩ := h.cells
  exact hm.not_cells cur t fr e2
def XKeep (w w' : World) : Prop := ∀ x, XBlk w x → w'.heap[x]? = w.heap[x]?
set_option maxHeartbeats 2000000 in
theorem grow_keep (ao : Option Addr) (n ca : Nat) (A : List Int) (w : World) (B tb NB cnt : Nat) (S : TS) (hT : TI w B tb S NB cnt) (hA : Tk w ao n A) (hne : ∀ p b o, ao = some ⟨b, o, none⟩ → S.nd p ≠ some b) (hN : NB + n < 1000000000) :
   Calls Tryd.prog 14 #[.pointer (some ⟨tb, 0, none⟩), .slice ao n ca] w fun e w' => ∃ g S', e = .returned (.pointer (some ⟨g, 0, none⟩)) ∧ TI w' B tb S' (NB + n) cnt ∧ S'.nd A = some g ∧ S'.vl = S.vl ∧ Below B w w' ∧ KKeep w w' S S' := by
  have hl := hA.len
  have hmx := hA.max
  have qn := fun W r => run_eql_map_nil (P := Tryd.prog) W 27 3 53 r Tryd.underlying27
  have hML : ∀ x, x < 1000000000 → x < maxLen := fun x hx => by unfold maxLen; omega
  go_enter Tryd.func14, Tryd.ntmps14
  go_wp2_with fail
  go_loopg [0, 9] n (fun r s0 s9 wr => ∃ (i g : Nat) (S' : TS), i ≤ n ∧ r = n - i ∧ s9 = .int .i64 (i : Int) ∧ s0 = .pointer (some ⟨g, 0, none⟩) ∧ TI wr B tb S' (NB + i) cnt ∧ S'.nd (A.take i) = some g ∧ S'.vl = S.vl ∧ Below B w wr ∧ Tk wr ao n A ∧ (∀ p b o, ao = some ⟨b, o, none⟩ → S'.nd p ≠ some b) ∧ KKeep w wr S S')
  case atStart => exact ⟨0, tb, S, by omega, by omega, rfl, rfl, hT, by rw [List.take_zero]; exact hT.root, rfl, Below.refl _ _, hA, hne, fun x _ h1 h2 => ⟨rfl, h1, h2⟩⟩
  case round =>
    clear hT hA hne
    obtain ⟨i, g, T, hi, rfl, rfl, rfl, hT, hg, hv, BB, hA, hne, KK⟩ := hrel
    have HKK : Hid (KKeep w wr S T) := KK
    clear KK
    by_cases hlt : i < n
    · have hA0 : Hid (Tk wr ao n A) := hA
      have hne0 : Hid (∀ p b o, ao = some ⟨b, o, none⟩ → T.nd p ≠ some b) := hne
      obtain ⟨b, o, hao, hc⟩ := hA.cells (by omega)
      subst hao
      have tkb : b < wr.heap.size := cell_lt (hc i hlt)
      have c1 := hc i hlt
      have sm := hA.small i
      have hw := wfI _ sm.1 sm.2
      have c0 := hT.c0 _ _ hg
      have f0 := hT.fr _ _ hg 0 (by decide)
      have tk : Hid (A.take (i + 1) = A.take i ++ [A.getD i 0]) := take_snoc A i (by omega)
      clear hc
      rcases hm : T.mp (A.take i) with _ | mb
      · rw [hm] at c0
        have hT1 := hT.addMap hg hm
        have gl := hT.lt hg
        have B1 : Below B wr ((wr.alloc (.map #[] 0)).setCell ⟨g, 0, none⟩ (.map (some wr.heap.size))) := ((((Below.refl wr.heap.size wr).alloc (Nat.le_refl _) (.map #[] 0)).mono (by have := hT.base _ _ hg; omega))).setCell (hT.base _ _ hg) _
        have k0 := hT.m0 _ hm (A.getD i 0)
        obtain ⟨n1, hn1, hm1⟩ := hT1.m1 (A.take i) wr.heap.size (upd_same _ _ _)
        have lk := hm1.look _ hw
        rw [show ({ T with mp := upd T.mp (A.take i) (some wr.heap.size) } : TS).nd (A.take i ++ [A.getD i 0]) = none from k0] at lk
        unfold ptr at lk
        obtain ⟨w2, hrun, hT2, B2, lk2, cc2, cc1, hk2, hs2⟩ := hT1.more (p := A.take i) (k := A.getD i 0) hg (upd_same _ _ _) k0 hw (hML _ (by omega))
        have e1 := World.cell?_setCell_same (wr.alloc (.map #[] 0)) ⟨g, 0, none⟩ (.map (some wr.heap.size)) (by rw [World.cell?_alloc_lt _ _ ⟨g, 0, none⟩ gl]; exact c0)
        have sz1 : ((wr.alloc (.map #[] 0)).setCell ⟨g, 0, none⟩ (.map (some wr.heap.size))).heap.size = wr.heap.size + 1 := by simp
        have sz0 := sz1
        have hA2 : Hid (Tk w2 (some ⟨b, o, none⟩) n A) := hA.keep (fun b' o' e _ => by
          injection e with e; injection e with e1 e2; subst e1
          rw [hk2 b (by rw [sz1]; omega) (by omega), Below.heap_setCell _ _ _ b (fun e => hne (A.take i) b o rfl (e ▸ hg)), Below.heap_alloc wr _ b tkb])
        rw [sz1] at hrun lk2 hT2
        have eW : (wr.alloc (.map #[] 0)).setCell ⟨g, 0, none⟩ (.map (some wr.heap.size)) = (wr.setCell ⟨g, 0, none⟩ (.map (some wr.heap.size))).alloc (.map #[] 0) := World.setCell_alloc_past (.map #[] 0) g 0 _ gl
        rw [eW] at lk hrun cc1 e1 sz1
        clear eW
        have mkm : (Instr.makeMap 27 none).run Tryd.prog wr = .ok (.map (some wr.heap.size)) (wr.alloc (.map #[] 0)) := by first | rfl | simp [Instr.makeMap] | kernel_rfl
        have HT2 : Hid (TI w2 B tb { T with mp := upd T.mp (A.take i) (some wr.heap.size), nd := upd T.nd (A.take i ++ [A.getD i 0]) (some (wr.heap.size + 1)) } (NB + i + 1) cnt) := hT2
        have BB2 : Hid (Below B w w2) := (BB.trans B1).trans B2
        have HNE : Hid (∀ p b' o', (some ⟨b, o, none⟩ : Option Addr) = some ⟨b', o', none⟩ → upd T.nd (A.take i ++ [A.getD i 0]) (some (wr.heap.size + 1)) p ≠ some b') := fun p b' o' e => by
          injection e with e; injection e with e1 e2; subst e1
          by_cases ep : p = A.take i ++ [A.getD i 0]
          · subst ep; rw [upd_same]; intro h; injection h with h; omega
          · rw [upd_other _ _ ep]; exact hne p b o rfl
        have HK : Hid (KKeep w w2 S { T with mp := upd T.mp (A.take i) (some wr.heap.size), nd := upd T.nd (A.take i ++ [A.getD i 0]) (some (wr.heap.size + 1)) }) := fun x hx h1 h2 => by
          obtain ⟨e1, e2, e3⟩ := HKK.out x hx h1 h2
          have hxr : x < wr.heap.size := Nat.lt_of_lt_of_le hx BB.size
          refine ⟨?_, fun q => ?_, fun q => ?_⟩
          · rw [hk2 x (by rw [sz0]; omega) (by omega), Below.heap_setCell _ _ _ x (fun e => e2 (A.take i) (e ▸ hg)), Below.heap_alloc wr _ x hxr]; exact e1
          · show upd T.nd _ _ q ≠ some x
            by_cases eq : q = A.take i ++ [A.getD i 0]
            · subst eq; rw [upd_same]; intro h; injection h with h; omega
            · rw [upd_other _ _ eq]; exact e2 q
          · show upd T.mp _ _ q ≠ some x
            by_cases eq : q = A.take i
            · subst eq; rw [upd_same]; intro h; injection h with h; omega
            · rw [upd_other _ _ eq]; exact e3 q
        have HV : Hid (T.vl = S.vl) := hv
        have HND : Hid (upd T.nd (A.take i ++ [A.getD i 0]) (some (wr.heap.size + 1)) (A.take (i + 1)) = some (wr.heap.size + 1)) := by show _ = _; rw [tk.out, upd_same]
        clear sz0 HKK
        clear hT hT1 hT2 hA hne BB B1 B2 hk2 hs2 hm1 hm k0 hv hne0 hA0 hn1
        generalize A.getD i 0 = k at *
        go_wp2_with fail
        go_roundg (n - (i + 1))
        case measure => omega
        case rel => exact ⟨i + 1, wr.heap.size + 1, _, by omega, rfl, by go_num, rfl, HT2.out, HND.out, HV.out, BB2.out, hA2.out, HNE.out, HK.out⟩
      · rw [hm] at c0
        obtain ⟨n1, hn1, hm1⟩ := hT.m1 _ _ hm
        have lk := hm1.look _ hw
        rcases hq : T.nd (A.take i ++ [A.getD i 0]) with _ | g2
        · rw [hq] at lk
          unfold ptr at lk
          obtain ⟨w2, hrun, hT2, B2, lk2, cc2, cc1, hk2, hs2⟩ := hT.more (p := A.take i) (k := A.getD i 0) hg hm hq hw (hML _ (by omega))
          have hA2 : Hid (Tk w2 (some ⟨b, o, none⟩) n A) := hA.keep (fun b' o' e hn0 => by
            injection e with e; injection e with e1 e2; subst e1
            exact hk2 b tkb (fun e => hA.not_map hn0 (e ▸ hm1)))
          have HT2 : Hid (TI w2 B tb { T with nd := upd T.nd (A.take i ++ [A.getD i 0]) (some wr.heap.size) } (NB + i + 1) cnt) := hT2
          have BB2 : Hid (Below B w w2) := BB.trans B2
          have HNE : Hid (∀ p b' o', (some ⟨b, o, none⟩ : Option Addr) = some ⟨b', o', none⟩ → upd T.nd (A.take i ++ [A.getD i 0]) (some wr.heap.size) p ≠ some b') := fun p b' o' e => by
            injection e with e; injection e with e1 e2; subst e1
            by_cases ep : p = A.take i ++ [A.getD i 0]
            · subst ep; rw [upd_same]; intro h; injection h with h; omega
            · rw [upd_other _ _ ep]; exact hne p b o rfl
          have HK : Hid (KKeep w w2 S { T with nd := upd T.nd (A.take i ++ [A.getD i 0]) (some wr.heap.size) }) := fun x hx h1 h2 => by
            obtain ⟨e1, e2, e3⟩ := HKK.out x hx h1 h2
            have hxr : x < wr.heap.size := Nat.lt_of_lt_of_le hx BB.size
            refine ⟨?_, fun q => ?_, e3⟩
            · rw [hk2 x hxr (fun e => e3 (A.take i) (e ▸ hm))]; exact e1
            · show upd T.nd _ _ q ≠ some x
              by_cases eq : q = A.take i ++ [A.getD i 0]
              · subst eq; rw [upd_same]; intro h; injection h with h; omega
              · rw [upd_other _ _ eq]; exact e2 q
          have HV : Hid (T.vl = S.vl) := hv
          have HND : Hid (upd T.nd (A.take i ++ [A.getD i 0]) (some wr.heap.size) (A.take (i + 1)) = some wr.heap.size) := by show _ = _; rw [tk.out, upd_same]
          clear HKK
          clear hT hT2 hA hne BB B2 hk2 hs2 hm1 hm hq hv hne0 hA0 hn1
          generalize A.getD i 0 = k at *
          go_wp2_with fail
          go_roundg (n - (i + 1))
          case measure => omega
          case rel => exact ⟨i + 1, wr.heap.size, _, by omega, rfl, by go_num, rfl, HT2.out, HND.out, HV.out, BB2.out, hA2.out, HNE.out, HK.out⟩
        · rw [hq] at lk
          unfold ptr at lk
          have HND : Hid (T.nd (A.take (i + 1)) = some g2) := by show _ = _; rw [tk.out]; exact hq
          have HT2 : Hid (TI wr B tb T (NB + (i + 1)) cnt) := hT.wider (by omega)
          have HV : Hid (T.vl = S.vl) := hv
          have BB2 : Hid (Below B w wr) := BB
          clear hT hA hne BB hm1 hm hq hv hn1
          generalize A.getD i 0 = k at *
          go_wp2_with fail
          go_roundg (n - (i + 1))
          case measure => omega
          case rel => exact ⟨i + 1, g2, T, by omega, rfl, by go_num, rfl, HT2.out, HND.out, HV.out, BB2.out, hA0.out, hne0.out, HKK.out⟩
    · obtain rfl : i = n := by omega
      have hz : Hid (T.nd A = some g) := by show _ = _; rw [← hg, ← hl, List.take_length]
      have HT : Hid (TI wr B tb T (NB + i) cnt) := hT
      clear hA hT
      go_wp2_with fail
      go_ret
      exact ⟨g, T, rfl, HT.out, hz.out, hv, BB, HKK.out⟩
theorem put_there_k (ao : Option Addr) (n ca : Nat) (A : List Int) (v x : Int) (w : World) (B tb NB cnt : Nat) (vl : List Int → Option Int) (h : TA w B tb vl NB cnt) (hA : Tk w ao n A) (h1 : 1 ≤ n) (h2 : n ≤ 128) (hx : vl A = some x) :
   Calls Tryd.prog 7 #[.pointer (some ⟨tb, 0, none⟩), .slice ao n ca, .int .i64 v] w fun e w' => e = .returned (.tuple #[.bool false, .int .i64 0]) ∧ TA w' B tb (upd vl A (some v)) NB cnt ∧ Below B w w' ∧ XKeep w w' := by
  obtain ⟨S, hT, rfl⟩ := h
  have F := find_any ao n ca A w B tb NB cnt S hT hA
  obtain ⟨g, hq⟩ : ∃ g, S.nd A = some g := Option.ne_none_iff_exists'.1 (hT.vnd A (by rw [hx]; simp))
  have c1 := hT.c1 A g hq
  have c2 := hT.c2 A g hq
  have f2 := hT.fr A g hq 2 (by decide)
  rw [hx] at c1 c2
  simp only [Option.isSome_some, Option.getD_some] at c1 c2
  rw [hq] at F
  unfold ptr at F
  have oc : ∀ o, o ≠ 2 → (w.setCell ⟨g, 2, none⟩ (.int .i64 v)).cell? ⟨g, o, none⟩ = w.cell? ⟨g, o, none⟩ := fun o ho => World.cell?_setCell_other _ _ _ _ (by intro e; injection e with e1 e2; exact ho e2.symm)
  have hT2 : Hid (TA (w.setCell ⟨g, 2, none⟩ (.int .i64 v)) B tb (upd S.vl A (some v)) NB cnt) := ⟨_, hT.val hq v (fun y hy => Below.heap_setCell _ _ _ y hy) (oc 0 (by decide)) (oc 3 (by decide)) ((oc 1 (by decide)).trans c1) (World.cell?_setCell_same _ _ _ c2) (fun j => World.frozen?_setCell _ _ _ _), rfl⟩
  have BB : Hid (Below B w (w.setCell ⟨g, 2, none⟩ (.int .i64 v))) := (Below.refl B w).setCell (hT.base _ _ hq) _
  have HX : Hid (XKeep w (w.setCell ⟨g, 2, none⟩ (.int .i64 v))) := fun x hx0 => Below.heap_setCell _ _ _ x (fun e => hx0.nd hT A (e ▸ hq))
  clear hT hA hq hx oc
  go_enter Tryd.func7, Tryd.ntmps7
  go_wp2_with (go_at_call 13; refine F.mono ?_; rintro e w5 ⟨rfl, hw⟩; replace hw := hw.symm; subst hw)
  go_ret2
  exact ⟨rfl, hT2.out, BB.out, HX.out⟩
set_option maxRecDepth 8000 in
set_option maxHeartbeats 1000000 in
theorem put_new_k (ao : Option Addr) (n ca : Nat) (A : List Int) (v : Int) (w : World) (B tb NB cnt : Nat) (vl : List Int → Option Int) (h : TA w B tb vl NB cnt) (hA : Tk w ao n A) (hne : ∀ b o, ao = some ⟨b, o, none⟩ → w.cell? ⟨b, 0, none⟩ = some (.int .i64 (A.getD 0 0))) (h1 : 1 ≤ n) (h2 : n ≤ 128) (hx : vl A = none) (hc : cnt < 1000) (hN : NB + n < 1000000000) :
   Calls Tryd.prog 7 #[.pointer (some ⟨tb, 0, none⟩), .slice ao n ca, .int .i64 v] w fun e w' => e = .returned (.tuple #[.bool true, .int .i64 0]) ∧ TA w' B tb (upd vl A (some v)) (NB + n) (cnt + 1) ∧ Below B w w' ∧ XKeep w w' := by
  obtain ⟨S, hT, rfl⟩ := h
  have F := find_any ao n ca A w B tb NB cnt S hT hA
  have cc := hT.cc
  have G := grow_keep ao n ca A w B tb NB cnt S hT hA (fun p b o e hp => by have := hT.c0 p b hp; rw [hne b o e] at this; cases this) hN
  have HE : Hid (∀ w2 g S', TI w2 B tb S' (NB + n) cnt → S'.nd A = some g → S'.vl = S.vl → Below B w w2 → KKeep w w2 S S' →
      w2.cell? ⟨g, 1, none⟩ = some (.bool false) ∧ w2.cell? ⟨g, 2, none⟩ = some (.int .i64 0) ∧ w2.frozen? ⟨g, 1, none⟩ = false ∧ w2.frozen? ⟨g, 2, none⟩ = false ∧
      ((w2.setCell ⟨g, 1, none⟩ (.bool true)).setCell ⟨g, 2, none⟩ (.int .i64 v)).cell? ⟨tb, 3, none⟩ = some (.int .i64 (cnt : Int)) ∧ ((w2.setCell ⟨g, 1, none⟩ (.bool true)).setCell ⟨g, 2, none⟩ (.int .i64 v)).frozen? ⟨tb, 3, none⟩ = false ∧
      TA (((w2.setCell ⟨g, 1, none⟩ (.bool true)).setCell ⟨g, 2, none⟩ (.int .i64 v)).setCell ⟨tb, 3, none⟩ (.int .i64 ((cnt + 1 : Nat) : Int))) B tb (upd S.vl A (some v)) (NB + n) (cnt + 1) ∧
      Below B w (((w2.setCell ⟨g, 1, none⟩ (.bool true)).setCell ⟨g, 2, none⟩ (.int .i64 v)).setCell ⟨tb, 3, none⟩ (.int .i64 ((cnt + 1 : Nat) : Int))) ∧ XKeep w (((w2.setCell ⟨g, 1, none⟩ (.bool true)).setCell ⟨g, 2, none⟩ (.int .i64 v)).setCell ⟨tb, 3, none⟩ (.int .i64 ((cnt + 1 : Nat) : Int)))) := by
    intro w2 g S' T2 hg hvl B2 K2
    have c1 := T2.c1 A g hg
    have c2 := T2.c2 A g hg
    rw [hvl, hx] at c1 c2
    have o1 : ∀ o, o ≠ 1 → o ≠ 2 → ((w2.setCell ⟨g, 1, none⟩ (.bool true)).setCell ⟨g, 2, none⟩ (.int .i64 v)).cell? ⟨g, o, none⟩ = w2.cell? ⟨g, o, none⟩ := fun o h1 h2 => by
      rw [World.cell?_setCell_other _ _ _ _ (by intro e; injection e with e1 e2; exact h2 e2.symm), World.cell?_setCell_other _ _ _ _ (by intro e; injection e with e1 e2; exact h1 e2.symm)]
    have hb : ∀ y, y ≠ g → ((w2.setCell ⟨g, 1, none⟩ (.bool true)).setCell ⟨g, 2, none⟩ (.int .i64 v)).heap[y]? = w2.heap[y]? := fun y hy => by
      rw [Below.heap_setCell _ _ _ y hy, Below.heap_setCell _ _ _ y hy]
    have k1 : ((w2.setCell ⟨g, 1, none⟩ (.bool true)).setCell ⟨g, 2, none⟩ (.int .i64 v)).cell? ⟨g, 1, none⟩ = some (.bool true) := by
      rw [World.cell?_setCell_other _ _ _ _ (by simp)]; exact World.cell?_setCell_same _ _ _ c1
    have k2 : ((w2.setCell ⟨g, 1, none⟩ (.bool true)).setCell ⟨g, 2, none⟩ (.int .i64 v)).cell? ⟨g, 2, none⟩ = some (.int .i64 v) :=
      World.cell?_setCell_same _ _ _ (by rw [World.cell?_setCell_other _ _ _ _ (by simp)]; exact c2)
    have T3 := T2.val hg v hb (o1 0 (by decide) (by decide)) (o1 3 (by decide) (by decide)) k1 k2 (fun j => by rw [World.frozen?_setCell, World.frozen?_setCell])
    have T4 := T3.count (cnt + 1)
    exact ⟨c1, c2, T2.fr A g hg 1 (by decide), T2.fr A g hg 2 (by decide), T3.cc, T3.cf, ⟨_, T4, by show upd S'.vl A (some v) = _; rw [hvl]⟩, ((B2.setCell (T2.base _ _ hg) _).setCell (T2.base _ _ hg) _).setCell (T2.base _ _ T2.root) _, fun x hx0 => by
        obtain ⟨e1, e2, e3⟩ := K2 x hx0.lt (fun q => hx0.nd hT q) (fun q => hx0.mp hT q)
        rw [Below.heap_setCell _ _ _ x (fun e => e2 [] (e ▸ T2.root)), Below.heap_setCell _ _ _ x (fun e => e2 A (e ▸ hg)), Below.heap_setCell _ _ _ x (fun e => e2 A (e ▸ hg))]; exact e1⟩
  rcases hq : S.nd A with _ | g
  · rw [hq] at F
    unfold ptr at F
    clear hT hA hq hx hne
    go_enter Tryd.func7, Tryd.ntmps7
    go_wp2_with (first
      | (go_at_call 13; refine F.mono ?_; rintro e w5 ⟨rfl, hw⟩; replace hw := hw.symm; subst hw)
      | (go_at_call 14; refine G.mono ?_; rintro e w6 ⟨g, S', rfl, T2, hg, hvl, B2, K2⟩; obtain ⟨d1, d2, d3, d4, d5, d6, d7, d8, d9⟩ := HE.out w6 g S' T2 hg hvl B2 K2; clear T2 hg hvl B2 K2))
    have ec : ((cnt + 1 : Nat) : Int) = (cnt : Int) + 1 := by omega
    rw [ec] at d7 d8 d9
    go_ret2
    exact ⟨rfl, d7, d8, d9⟩
  · have c1 := hT.c1 A g hq
    rw [hx] at c1
    simp only [Option.isSome_none] at c1
    rw [hq] at F
    unfold ptr at F
    clear hT hA hq hx hne
    go_enter Tryd.func7, Tryd.ntmps7
    go_wp2_with (first
      | (go_at_call 13; refine F.mono ?_; rintro e w5 ⟨rfl, hw⟩; replace hw := hw.symm; subst hw)
      | (go_at_call 14; refine G.mono ?_; rintro e w6 ⟨g2, S', rfl, T2, hg, hvl, B2, K2⟩; obtain ⟨d1, d2, d3, d4, d5, d6, d7, d8, d9⟩ := HE.out w6 g2 S' T2 hg hvl B2 K2; clear T2 hg hvl B2 K2))
    have ec : ((cnt + 1 : Nat) : Int) = (cnt : Int) + 1 := by omega
    rw [ec] at d7 d8 d9
    go_ret2
    exact ⟨rfl, d7, d8, d9⟩
/-- Put of any row of at most 140 numbers where there is room. -/
theorem put_some_k (ca b n : Nat) (A : List Int) (v : Int) (w : World) (B tb NB cnt : Nat) (vl : List Int → Option Int) (h : TA w B tb vl NB cnt) (hA : Tk w (some ⟨b, 0, none⟩) n A) (hf : 1 ≤ n → ∀ b' o, (some ⟨b, 0, none⟩ : Option Addr) = some ⟨b', o, none⟩ → w.cell? ⟨b', 0, none⟩ = some (.int .i64 (A.getD 0 0)))
    (hn : n ≤ 140) (hc : cnt < 1000) (hN : NB ≤ 1000000) :
   Calls Tryd.prog 7 #[.pointer (some ⟨tb, 0, none⟩), .slice (some ⟨b, 0, none⟩) n ca, .int .i64 v] w fun e w' => (∃ x, e = .returned (.tuple #[.bool x, .int .i64 (putE n)])) ∧ (∃ c', c' ≤ cnt + 1 ∧ TA w' B tb (putV vl A v) (NB + 140) c') ∧ Below B w w' ∧ XKeep w w' := by
  have hl := hA.len
  unfold putE putV
  rw [hl]
  by_cases h0 : n = 0
  · subst h0
    rw [if_pos rfl, if_pos rfl]
    exact (put_none ca _ v tb w).mono fun e w' ⟨he, hw⟩ => ⟨⟨_, he⟩, ⟨cnt, by omega, by rw [hw]; exact h.wider (by omega)⟩, by rw [hw]; exact Below.refl _ _, fun x _ => by rw [hw]⟩
  rw [if_neg h0, if_neg h0]
  by_cases h1 : 128 < n
  · rw [if_pos h1, if_pos h1]
    exact (put_big n ca _ v tb w h1 (by omega)).mono fun e w' ⟨he, hw⟩ => ⟨⟨_, he⟩, ⟨cnt, by omega, by rw [hw]; exact h.wider (by omega)⟩, by rw [hw]; exact Below.refl _ _, fun x _ => by rw [hw]⟩
  rw [if_neg h1, if_neg h1]
  rcases hx : vl A with _ | x
  · exact (put_new_k _ n ca A v w B tb NB cnt vl h hA (hf (by omega)) (by omega) (by omega) hx hc (by omega)).mono fun e w' ⟨he, T, hb⟩ => ⟨⟨_, he⟩, ⟨cnt + 1, by omega, T.wider (by omega)⟩, hb⟩
  · exact (put_there_k _ n ca A v x w B tb NB cnt vl h hA (by omega) (by omega) hx).mono fun e w' ⟨he, T, hb⟩ => ⟨⟨_, he⟩, ⟨cnt, by omega, T.wider (by omega)⟩, hb⟩
end Go.Proofs.YtomcbihaonndmaaDoor
