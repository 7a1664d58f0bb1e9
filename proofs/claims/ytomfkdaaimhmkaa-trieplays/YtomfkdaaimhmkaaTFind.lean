/- Package trie's find: the node of a row, or nil; nothing turns. -/
import Derived.Test.YtomfkdaaimhmkaaTMap
import Derived.WalkSpells
namespace Go.Proofs.Ytomfkdaaimhmkaa
open Go.ChangeShapes Go.WideShapes Go.ChangeAt Go.RowKit Go.Maps
set_option maxRecDepth 100000 in
set_option maxHeartbeats 1000000 in
theorem find_any (ao : Option Addr) (n ca : Nat) (A : List Int) (w : World) (B tb NB cnt : Nat) (S : TS) (hT : TI w B tb S NB cnt) (hA : Tk w ao n A) :
   Calls Try.prog 23 #[.pointer (some ⟨tb, 0, none⟩), .slice ao n ca] w fun e w' => e = .returned (ptr (S.nd A)) ∧ w' = w := by
  have hl := hA.len
  have hmx := hA.max
  go_enter Try.func23, Try.ntmps23
  go_wp2_with fail
  go_loopg [0, 9] n (fun r s0 s9 wr => ∃ (i g : Nat), i ≤ n ∧ r = n - i ∧ s9 = .int .i64 (i : Int) ∧ s0 = .pointer (some ⟨g, 0, none⟩) ∧ S.nd (A.take i) = some g ∧ wr = w)
  case atStart => exact ⟨0, tb, by omega, by omega, rfl, rfl, by rw [List.take_zero]; exact hT.root, rfl⟩
  case round =>
    obtain ⟨i, g, hi, rfl, rfl, rfl, hg, rfl⟩ := hrel
    by_cases hlt : i < n
    · obtain ⟨b, o, rfl, hc⟩ := hA.cells (by omega)
      have c1 := hc i hlt
      have sm := hA.small i
      have hw := wfI _ sm.1 sm.2
      have c0 := hT.c0 _ _ hg
      have tk : Hid (A.take (i + 1) = A.take i ++ [A.getD i 0]) := take_snoc A i (by omega)
      have lk : (Instr.lookup 24 (.map (S.mp (A.take i))) (.int .i64 (A.getD i 0)) false).run Try.prog wr = .ok (ptr (S.nd (A.take i ++ [A.getD i 0]))) wr := by
        rcases hm : S.mp (A.take i) with _ | mb
        · rw [hT.m0 _ hm]
          exact look_none wr _ hw
        · obtain ⟨n1, _, hm1⟩ := hT.m1 _ _ hm
          exact hm1.look _ hw
      have HN : Hid (S.nd (A.take i ++ [A.getD i 0]) = none → S.nd A = none) := fun h => hT.none_all A (i + 1) (by omega) (by rw [tk.out]; exact h)
      clear hc hw
      generalize S.mp (A.take i) = mm at *
      generalize A.getD i 0 = k at *
      rcases hq : S.nd (A.take i ++ [k]) with _ | g2
      · rw [hq] at lk
        have hz : Hid (S.nd A = none) := HN.out hq
        unfold ptr at lk
        clear HN hq hA hT
        go_wp2_with fail
        go_ret
        exact ⟨by rw [hz.out]; rfl, rfl⟩
      · rw [hq] at lk
        have hz : Hid (S.nd (A.take (i + 1)) = some g2) := by show _ = _; rw [tk.out]; exact hq
        unfold ptr at lk
        clear HN hq
        go_wp2_with fail
        go_roundg (n - (i + 1))
        case measure => omega
        case rel => exact ⟨i + 1, g2, by omega, rfl, by go_num, rfl, hz.out, rfl⟩
    · obtain rfl : i = n := by omega
      have hz : Hid (S.nd A = some g) := by show _ = _; rw [← hg, ← hl, List.take_length]
      clear hA hT
      go_wp2_with fail
      go_ret
      exact ⟨by rw [hz.out]; rfl, rfl⟩
set_option maxRecDepth 100000 in
theorem TI.more {w : World} {B tb NB cnt b g : Nat} {S : TS} (h : TI w B tb S NB cnt) {p : List Int} {k : Int} (hp : S.nd p = some g) (hm : S.mp p = some b) (hk : S.nd (p ++ [k]) = none) (hw : (Lit.int .i64 k).wf = true) (hN : NB < maxLen) :
    ∃ w2, (Instr.mapUpdate 24 (.map (some b)) (.int .i64 k) (.pointer (some ⟨w.heap.size, 0, none⟩))).run Try.prog (w.alloc (.cells #[.map none, .bool false, .int .i64 0] 26)) = .ok () w2 ∧
      TI w2 B tb { S with nd := upd S.nd (p ++ [k]) (some w.heap.size) } (NB + 1) cnt ∧ Below B w w2 ∧
      (Instr.lookup 24 (.map (some b)) (.int .i64 k) false).run Try.prog w2 = .ok (.pointer (some ⟨w.heap.size, 0, none⟩)) w2 ∧
      w2.cell? ⟨g, 0, none⟩ = some (.map (some b)) ∧ (w.alloc (.cells #[.map none, .bool false, .int .i64 0] 26)).cell? ⟨g, 0, none⟩ = some (.map (some b)) ∧
      (∀ x, x < w.heap.size → x ≠ b → w2.heap[x]? = w.heap[x]?) ∧ w.heap.size ≤ w2.heap.size := by
  obtain ⟨n, hn, hM⟩ := h.m1 p b hm
  have hb1 : Below w.heap.size w (w.alloc (.cells #[.map none, .bool false, .int .i64 0] 26)) := (Below.refl _ w).alloc (Nat.le_refl _) _
  obtain ⟨w2, hrun, hM2, ht⟩ := (hM.keep (hb1.block b (h.mlt hm))).store (by omega) k hw w.heap.size
  have hT2 := h.addNode hm hk hM2 hn ht
  have hG := ht.grown
  have hB := h.base p g hp
  have hg := h.lt hp
  have c0 := h.c0 p g hp
  rw [hm] at c0
  have hbk : ∀ x, x < w.heap.size → x ≠ b → w2.heap[x]? = w.heap[x]? := fun x hx hb => by
    rw [hG.block x (by simp; omega) (by simpa using hb)]
    exact Below.heap_alloc w _ x hx
  refine ⟨w2, hrun, hT2, ?_, ?_, ?_, ?_, hbk, ?_⟩
  · have h1 : Below B w (w.alloc (.cells #[.map none, .bool false, .int .i64 0] 26)) := hb1.mono (by omega)
    exact h1.grown hG (by simp; omega) (fun j hj => by injection hj with hj; rw [← hj]; exact h.mbase p b hm)
  · have := hM2.look k hw
    rw [if_pos rfl] at this
    exact this
  · rw [World.cell?_of_block (w := w) (a := ⟨g, 0, none⟩) (hbk g hg (fun e => h.mne hp hm e.symm))]; exact c0
  · rw [hb1.cell (p := ⟨g, 0, none⟩) hg]; exact c0
  · have := hG.size; simp at this; omega
set_option maxRecDepth 100000 in
theorem TI.wider {w : World} {B tb NB NB' cnt : Nat} {S : TS} (h : TI w B tb S NB cnt) (hn : NB ≤ NB') : TI w B tb S NB' cnt :=
  ⟨h.root, h.base, h.mbase, h.c0, h.c1, h.c2, h.fr, fun p b hb => by obtain ⟨n, hl, hx⟩ := h.m1 p b hb; exact ⟨n, by omega, hx⟩, h.m0, h.inj, h.minj, h.mnd, h.vnd, h.cc, h.cf⟩
set_option maxRecDepth 100000 in
theorem Tk.keep {w w' : World} {ao : Option Addr} {n : Nat} {A : List Int} (h : Tk w ao n A) (hb : ∀ b o, ao = some ⟨b, o, none⟩ → 0 < n → w'.heap[b]? = w.heap[b]?) : Tk w' ao n A := by
  refine ⟨h.len, h.max, h.small, fun hn => ?_⟩
  obtain ⟨b, o, e, hc⟩ := h.cells hn
  exact ⟨b, o, e, fun t ht => by rw [World.cell?_of_block (w := w) (a := ⟨b, o + t, none⟩) (hb b o e hn)]; exact hc t ht⟩
set_option maxRecDepth 100000 in
theorem Tk.not_map {w : World} {b o n m : Nat} {A : List Int} {f : Int → Option Nat} (h : Tk w (some ⟨b, o, none⟩) n A) (hn : 0 < n) (hm : MapOf w b m f) : False := by
  obtain ⟨b', o', e, hc⟩ := h.cells hn
  injection e with e
  injection e with e1 e2
  subst e1
  have := hm.not_cell (o' + 0)
  rw [hc 0 hn] at this
  cases this
set_option maxRecDepth 100000 in
set_option maxHeartbeats 2000000 in
theorem grow_any (ao : Option Addr) (n ca : Nat) (A : List Int) (w : World) (B tb NB cnt : Nat) (S : TS) (hT : TI w B tb S NB cnt) (hA : Tk w ao n A) (hne : ∀ p b o, ao = some ⟨b, o, none⟩ → S.nd p ≠ some b) (hN : NB + n < 1000000000) :
   Calls Try.prog 24 #[.pointer (some ⟨tb, 0, none⟩), .slice ao n ca] w fun e w' => ∃ g S', e = .returned (.pointer (some ⟨g, 0, none⟩)) ∧ TI w' B tb S' (NB + n) cnt ∧ S'.nd A = some g ∧ S'.vl = S.vl ∧ Below B w w' ∧ Own S w S' w' n := by
  have hl := hA.len
  have hmx := hA.max
  have qn := fun W r => run_eql_map_nil (P := Try.prog) W 24 3 63 r Try.underlying24
  have hML : ∀ x, x < 1000000000 → x < maxLen := fun x hx => by unfold maxLen; omega
  go_enter Try.func24, Try.ntmps24
  go_wp2_with fail
  go_loopg [0, 9] n (fun r s0 s9 wr => ∃ (i g : Nat) (S' : TS), i ≤ n ∧ r = n - i ∧ s9 = .int .i64 (i : Int) ∧ s0 = .pointer (some ⟨g, 0, none⟩) ∧ TI wr B tb S' (NB + i) cnt ∧ S'.nd (A.take i) = some g ∧ S'.vl = S.vl ∧ (Below B w wr ∧ Own S w S' wr i) ∧ Tk wr ao n A ∧ (∀ p b o, ao = some ⟨b, o, none⟩ → S'.nd p ≠ some b))
  case atStart => exact ⟨0, tb, S, by omega, by omega, rfl, rfl, hT, by rw [List.take_zero]; exact hT.root, rfl, ⟨Below.refl _ _, Own.refl _ _ _⟩, hA, hne⟩
  case round =>
    clear hT hA hne
    obtain ⟨i, g, T, hi, rfl, rfl, rfl, hT, hg, hv, ⟨BB, OO⟩, hA, hne⟩ := hrel
    by_cases hlt : i < n
    · have hA0 : Hid (Tk wr ao n A) := hA
      have hne0 : Hid (∀ p b o, ao = some ⟨b, o, none⟩ → T.nd p ≠ some b) := hne
      obtain ⟨b, o, hao, hc⟩ := hA.cells (by omega)
      subst hao
      have tkb : b < wr.heap.size := cell_lt (hc i hlt)
      have c1 := hc i hlt
      have sm := hA.small i
      have hw := wfI _ sm.1 sm.2
      have c0 := hT.c0 _ _ hg
      have f0 := hT.fr _ _ hg 0 (by decide)
      have tk : Hid (A.take (i + 1) = A.take i ++ [A.getD i 0]) := take_snoc A i (by omega)
      clear hc
      rcases hm : T.mp (A.take i) with _ | mb
      · rw [hm] at c0
        have hT1 := hT.addMap hg hm
        have gl := hT.lt hg
        have B1 : Below B wr ((wr.alloc (.map #[] 0)).setCell ⟨g, 0, none⟩ (.map (some wr.heap.size))) := ((((Below.refl wr.heap.size wr).alloc (Nat.le_refl _) (.map #[] 0)).mono (by have := hT.base _ _ hg; omega))).setCell (hT.base _ _ hg) _
        have k0 := hT.m0 _ hm (A.getD i 0)
        obtain ⟨n1, hn1, hm1⟩ := hT1.m1 (A.take i) wr.heap.size (upd_same _ _ _)
        have lk := hm1.look _ hw
        rw [show ({ T with mp := upd T.mp (A.take i) (some wr.heap.size) } : TS).nd (A.take i ++ [A.getD i 0]) = none from k0] at lk
        unfold ptr at lk
        obtain ⟨w2, hrun, hT2, B2, lk2, cc2, cc1, hk2, hs2⟩ := hT1.more (p := A.take i) (k := A.getD i 0) hg (upd_same _ _ _) k0 hw (hML _ (by omega))
        have e1 := World.cell?_setCell_same (wr.alloc (.map #[] 0)) ⟨g, 0, none⟩ (.map (some wr.heap.size)) (by rw [World.cell?_alloc_lt _ _ ⟨g, 0, none⟩ gl]; exact c0)
        have sz1 : ((wr.alloc (.map #[] 0)).setCell ⟨g, 0, none⟩ (.map (some wr.heap.size))).heap.size = wr.heap.size + 1 := by simp
        have hA2 : Hid (Tk w2 (some ⟨b, o, none⟩) n A) := hA.keep (fun b' o' e _ => by
          injection e with e; injection e with e1 e2; subst e1
          rw [hk2 b (by rw [sz1]; omega) (by omega), Below.heap_setCell _ _ _ b (fun e => hne (A.take i) b o rfl (e ▸ hg)), Below.heap_alloc wr _ b tkb])
        have sz0 := sz1
        rw [sz1] at hrun lk2 hT2
        have eW : (wr.alloc (.map #[] 0)).setCell ⟨g, 0, none⟩ (.map (some wr.heap.size)) = (wr.setCell ⟨g, 0, none⟩ (.map (some wr.heap.size))).alloc (.map #[] 0) := World.setCell_alloc_past (.map #[] 0) g 0 _ gl
        rw [eW] at lk hrun cc1 e1 sz1
        clear eW
        have mkm : (Instr.makeMap 24 none).run Try.prog wr = .ok (.map (some wr.heap.size)) (wr.alloc (.map #[] 0)) := by first | rfl | simp [Instr.makeMap] | kernel_rfl
        have HT2 : Hid (TI w2 B tb { T with mp := upd T.mp (A.take i) (some wr.heap.size), nd := upd T.nd (A.take i ++ [A.getD i 0]) (some (wr.heap.size + 1)) } (NB + i + 1) cnt) := hT2
        have BB2 : Hid (Below B w w2) := (BB.trans B1).trans B2
        have OO2 : Hid (Own S w { T with mp := upd T.mp (A.take i) (some wr.heap.size), nd := upd T.nd (A.take i ++ [A.getD i 0]) (some (wr.heap.size + 1)) } w2 (i + 1)) := OO.trans (Own.of (fun q x hq => by
            replace hq : upd T.nd (A.take i ++ [A.getD i 0]) (some (wr.heap.size + 1)) q = some x := hq
            by_cases e : q = A.take i ++ [A.getD i 0]
            · rw [e, upd_same] at hq; injection hq with hq
              exact Or.inr ⟨by rw [e]; simp only [List.length_append, List.length_take, List.length_cons, List.length_nil]; omega, by omega⟩
            · rw [upd_other _ _ e] at hq; exact Or.inl hq) (fun q x hq => by
            replace hq : upd T.mp (A.take i) (some wr.heap.size) q = some x := hq
            by_cases e : q = A.take i
            · rw [e, upd_same] at hq; injection hq with hq; exact Or.inr (by omega)
            · rw [upd_other _ _ e] at hq; exact Or.inl hq) (by rw [sz0] at hs2; omega) (fun x hx hn => by
            rw [hk2 x (by rw [sz0]; omega) (by omega), Below.heap_setCell _ _ _ x (fun e => hn (Or.inl ⟨_, (show x = g from e) ▸ hg⟩)), Below.heap_alloc wr _ x hx])) (by omega)
        have HNE : Hid (∀ p b' o', (some ⟨b, o, none⟩ : Option Addr) = some ⟨b', o', none⟩ → upd T.nd (A.take i ++ [A.getD i 0]) (some (wr.heap.size + 1)) p ≠ some b') := fun p b' o' e => by
          injection e with e; injection e with e1 e2; subst e1
          by_cases ep : p = A.take i ++ [A.getD i 0]
          · subst ep; rw [upd_same]; intro h; injection h with h; omega
          · rw [upd_other _ _ ep]; exact hne p b o rfl
        have HV : Hid (T.vl = S.vl) := hv
        have HND : Hid (upd T.nd (A.take i ++ [A.getD i 0]) (some (wr.heap.size + 1)) (A.take (i + 1)) = some (wr.heap.size + 1)) := by show _ = _; rw [tk.out, upd_same]
        clear hT hT1 hT2 hA hne BB OO B1 B2 hk2 hs2 hm1 hm k0 hv hne0 hA0 hn1 sz0
        generalize A.getD i 0 = k at *
        go_wp2_with fail
        go_roundg (n - (i + 1))
        case measure => omega
        case rel => exact ⟨i + 1, wr.heap.size + 1, _, by omega, rfl, by go_num, rfl, HT2.out, HND.out, HV.out, ⟨BB2.out, OO2.out⟩, hA2.out, HNE.out⟩
      · rw [hm] at c0
        obtain ⟨n1, hn1, hm1⟩ := hT.m1 _ _ hm
        have lk := hm1.look _ hw
        rcases hq : T.nd (A.take i ++ [A.getD i 0]) with _ | g2
        · rw [hq] at lk
          unfold ptr at lk
          obtain ⟨w2, hrun, hT2, B2, lk2, cc2, cc1, hk2, hs2⟩ := hT.more (p := A.take i) (k := A.getD i 0) hg hm hq hw (hML _ (by omega))
          have hA2 : Hid (Tk w2 (some ⟨b, o, none⟩) n A) := hA.keep (fun b' o' e hn0 => by
            injection e with e; injection e with e1 e2; subst e1
            exact hk2 b tkb (fun e => hA.not_map hn0 (e ▸ hm1)))
          have HT2 : Hid (TI w2 B tb { T with nd := upd T.nd (A.take i ++ [A.getD i 0]) (some wr.heap.size) } (NB + i + 1) cnt) := hT2
          have BB2 : Hid (Below B w w2) := BB.trans B2
          have OO2 : Hid (Own S w { T with nd := upd T.nd (A.take i ++ [A.getD i 0]) (some wr.heap.size) } w2 (i + 1)) := OO.trans (Own.of (fun q x hq2 => by
            replace hq2 : upd T.nd (A.take i ++ [A.getD i 0]) (some wr.heap.size) q = some x := hq2
            by_cases e : q = A.take i ++ [A.getD i 0]
            · rw [e, upd_same] at hq2; injection hq2 with hq2
              exact Or.inr ⟨by rw [e]; simp only [List.length_append, List.length_take, List.length_cons, List.length_nil]; omega, by omega⟩
            · rw [upd_other _ _ e] at hq2; exact Or.inl hq2) (fun q x hq2 => Or.inl hq2) hs2 (fun x hx hn => hk2 x hx (fun e => hn (Or.inr ⟨_, e ▸ hm⟩)))) (by omega)
          have HNE : Hid (∀ p b' o', (some ⟨b, o, none⟩ : Option Addr) = some ⟨b', o', none⟩ → upd T.nd (A.take i ++ [A.getD i 0]) (some wr.heap.size) p ≠ some b') := fun p b' o' e => by
            injection e with e; injection e with e1 e2; subst e1
            by_cases ep : p = A.take i ++ [A.getD i 0]
            · subst ep; rw [upd_same]; intro h; injection h with h; omega
            · rw [upd_other _ _ ep]; exact hne p b o rfl
          have HV : Hid (T.vl = S.vl) := hv
          have HND : Hid (upd T.nd (A.take i ++ [A.getD i 0]) (some wr.heap.size) (A.take (i + 1)) = some wr.heap.size) := by show _ = _; rw [tk.out, upd_same]
          clear hT hT2 hA hne BB OO B2 hk2 hs2 hm1 hm hq hv hne0 hA0 hn1
          generalize A.getD i 0 = k at *
          go_wp2_with fail
          go_roundg (n - (i + 1))
          case measure => omega
          case rel => exact ⟨i + 1, wr.heap.size, _, by omega, rfl, by go_num, rfl, HT2.out, HND.out, HV.out, ⟨BB2.out, OO2.out⟩, hA2.out, HNE.out⟩
        · rw [hq] at lk
          unfold ptr at lk
          have HND : Hid (T.nd (A.take (i + 1)) = some g2) := by show _ = _; rw [tk.out]; exact hq
          have HT2 : Hid (TI wr B tb T (NB + (i + 1)) cnt) := hT.wider (by omega)
          have HV : Hid (T.vl = S.vl) := hv
          have BB2 : Hid (Below B w wr) := BB
          have OO2 : Hid (Own S w T wr (i + 1)) := OO.wider (by omega)
          clear hT hA hne BB OO hm1 hm hq hv hn1
          generalize A.getD i 0 = k at *
          go_wp2_with fail
          go_roundg (n - (i + 1))
          case measure => omega
          case rel => exact ⟨i + 1, g2, T, by omega, rfl, by go_num, rfl, HT2.out, HND.out, HV.out, ⟨BB2.out, OO2.out⟩, hA0.out, hne0.out⟩
    · obtain rfl : i = n := by omega
      have hz : Hid (T.nd A = some g) := by show _ = _; rw [← hg, ← hl, List.take_length]
      have HT : Hid (TI wr B tb T (NB + i) cnt) := hT
      clear hA hT
      go_wp2_with fail
      go_ret
      exact ⟨g, T, rfl, HT.out, hz.out, hv, BB, OO⟩
end Go.Proofs.Ytomfkdaaimhmkaa
