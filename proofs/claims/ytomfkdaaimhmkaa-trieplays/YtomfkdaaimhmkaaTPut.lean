/- Package trie's Put, Get and Count: what they answer, and what is kept behind them. -/
import Derived.Test.YtomfkdaaimhmkaaTFind
namespace Go.Proofs.Ytomfkdaaimhmkaa
open Go.ChangeShapes Go.WideShapes Go.ChangeAt Go.RowKit Go.Maps
theorem TI.val {w w' : World} {B tb NB cnt : Nat} {S : TS} (h : TI w B tb S NB cnt) {p : List Int} {g : Nat} (hp : S.nd p = some g) (v : Int) (ho : ∀ x, x ≠ g → w'.heap[x]? = w.heap[x]?)
    (k0 : w'.cell? ⟨g, 0, none⟩ = w.cell? ⟨g, 0, none⟩) (k3 : w'.cell? ⟨g, 3, none⟩ = w.cell? ⟨g, 3, none⟩) (k1 : w'.cell? ⟨g, 1, none⟩ = some (.bool true)) (k2 : w'.cell? ⟨g, 2, none⟩ = some (.int .i64 v)) (kf : ∀ j, w'.frozen? ⟨g, j, none⟩ = w.frozen? ⟨g, j, none⟩) :
    TI w' B tb { S with vl := upd S.vl p (some v) } NB cnt := by
  have ne : ∀ q g', S.nd q = some g' → q ≠ p → g' ≠ g := fun q g' hq e he => e (h.inj q p g (he ▸ hq) hp)
  have eqg : ∀ g', S.nd p = some g' → g' = g := fun g' hq => by rw [hp] at hq; injection hq with hq; exact hq.symm
  refine ⟨h.root, h.base, h.mbase, ?_, ?_, ?_, ?_, ?_, h.m0, h.inj, h.minj, h.mnd, ?_, ?_, ?_⟩
  · intro q g' hq
    by_cases e : q = p
    · subst e; obtain rfl := eqg g' hq; rw [k0]; exact h.c0 q g' hq
    · rw [World.cell?_of_block (w := w) (a := ⟨g', 0, none⟩) (ho g' (ne q g' hq e))]; exact h.c0 q g' hq
  · intro q g' hq
    show _ = some (Value.bool (upd S.vl p (some v) q).isSome)
    by_cases e : q = p
    · subst e; obtain rfl := eqg g' hq; rw [k1, upd_same]; rfl
    · rw [World.cell?_of_block (w := w) (a := ⟨g', 1, none⟩) (ho g' (ne q g' hq e)), upd_other _ _ e]; exact h.c1 q g' hq
  · intro q g' hq
    show _ = some (Value.int .i64 ((upd S.vl p (some v) q).getD 0))
    by_cases e : q = p
    · subst e; obtain rfl := eqg g' hq; rw [k2, upd_same]; rfl
    · rw [World.cell?_of_block (w := w) (a := ⟨g', 2, none⟩) (ho g' (ne q g' hq e)), upd_other _ _ e]; exact h.c2 q g' hq
  · intro q g' hq j hj
    by_cases e : q = p
    · subst e; obtain rfl := eqg g' hq; rw [kf]; exact h.fr q g' hq j hj
    · rw [World.frozen?_of_block (w := w) (a := ⟨g', j, none⟩) (ho g' (ne q g' hq e))]; exact h.fr q g' hq j hj
  · intro q b hb
    obtain ⟨n, hl, hx⟩ := h.m1 q b hb
    exact ⟨n, hl, hx.keep (ho b (h.mne hp hb))⟩
  · intro q hq
    have hq2 : upd S.vl p (some v) q ≠ none := hq
    by_cases e : q = p
    · subst e; show S.nd q ≠ none; rw [hp]; simp
    · rw [upd_other _ _ e] at hq2; exact h.vnd q hq2
  · by_cases e : tb = g
    · subst e; rw [k3]; exact h.cc
    · rw [World.cell?_of_block (w := w) (a := ⟨tb, 3, none⟩) (ho tb e)]; exact h.cc
  · by_cases e : tb = g
    · subst e; rw [kf]; exact h.cf
    · rw [World.frozen?_of_block (w := w) (a := ⟨tb, 3, none⟩) (ho tb e)]; exact h.cf
theorem TI.count {w : World} {B tb NB cnt : Nat} {S : TS} (h : TI w B tb S NB cnt) (c : Nat) : TI (w.setCell ⟨tb, 3, none⟩ (.int .i64 (c : Int))) B tb S NB c := by
  have oc : ∀ (g o : Nat), o ≠ 3 → (w.setCell ⟨tb, 3, none⟩ (.int .i64 (c : Int))).cell? ⟨g, o, none⟩ = w.cell? ⟨g, o, none⟩ := fun g o ho => World.cell?_setCell_other _ _ _ _ (by intro e; injection e with e1 e2; exact ho e2.symm)
  refine ⟨h.root, h.base, h.mbase, ?_, ?_, ?_, ?_, ?_, h.m0, h.inj, h.minj, h.mnd, h.vnd, World.cell?_setCell_same _ _ _ h.cc, ?_⟩
  · intro q g hq; rw [oc g 0 (by decide)]; exact h.c0 q g hq
  · intro q g hq; rw [oc g 1 (by decide)]; exact h.c1 q g hq
  · intro q g hq; rw [oc g 2 (by decide)]; exact h.c2 q g hq
  · intro q g hq j hj; rw [World.frozen?_setCell]; exact h.fr q g hq j hj
  · intro q b hb
    obtain ⟨n, hl, hx⟩ := h.m1 q b hb
    exact ⟨n, hl, hx.keep (Below.heap_setCell _ _ _ b (h.mne h.root hb))⟩
  · rw [World.frozen?_setCell]; exact h.cf
/-- A trie in block tb that keeps just these values. -/
structure TA (w : World) (B tb : Nat) (S : TS) (vl : List Int → Option Int) (NB cnt : Nat) : Prop where
  ti : TI w B tb S NB cnt
  vv : S.vl = vl
  dp : ∀ q, S.nd q ≠ none → q.length ≤ 128
  ls : ∃ L : List (List Int), L.Nodup ∧ L.length = cnt ∧ ∀ q, q ∈ L ↔ vl q ≠ none
  cm : cnt ≤ 1000
theorem TA.below {w w' : World} {B tb NB cnt : Nat} {S : TS} {vl : List Int → Option Int} (h : TA w B tb S vl NB cnt) (hb : Below w.heap.size w w') : TA w' B tb S vl NB cnt := ⟨h.ti.below hb, h.vv, h.dp, h.ls, h.cm⟩
theorem TA.keep {w w' : World} {B tb NB cnt : Nat} {S : TS} {vl : List Int → Option Int} (h : TA w B tb S vl NB cnt) (hb : ∀ x, S.has x → w'.heap[x]? = w.heap[x]?) : TA w' B tb S vl NB cnt := ⟨h.ti.same (fun p g hp => hb g (Or.inl ⟨p, hp⟩)) (fun p g hp => hb g (Or.inr ⟨p, hp⟩)), h.vv, h.dp, h.ls, h.cm⟩
theorem TA.tb {w : World} {B tb NB cnt : Nat} {S : TS} {vl : List Int → Option Int} (h : TA w B tb S vl NB cnt) : B ≤ tb ∧ tb < w.heap.size := by
  have hT := h.ti
  exact ⟨hT.base _ _ hT.root, hT.lt hT.root⟩
theorem count_any (w : World) (B tb NB cnt : Nat) (S : TS) (vl : List Int → Option Int) (h : TA w B tb S vl NB cnt) :
   Calls Try.prog 21 #[.pointer (some ⟨tb, 0, none⟩)] w fun e w' => e = .returned (.int .i64 (cnt : Int)) ∧ w' = w := by
  have hT := h.ti
  have cc := hT.cc
  clear hT
  go_enter Try.func21, Try.ntmps21
  go_wp2_with fail
  go_ret
  exact ⟨rfl, rfl⟩
theorem get_any (ao : Option Addr) (n ca : Nat) (A : List Int) (w : World) (B tb NB cnt : Nat) (S : TS) (vl : List Int → Option Int) (h : TA w B tb S vl NB cnt) (hA : Tk w ao n A) :
   Calls Try.prog 15 #[.pointer (some ⟨tb, 0, none⟩), .slice ao n ca] w fun e w' => e = .returned (.tuple #[.int .i64 ((vl A).getD 0), .bool (vl A).isSome]) ∧ w' = w := by
  obtain ⟨hT, rfl, hD, hL, hC⟩ := h
  have F := find_any ao n ca A w B tb NB cnt S hT hA
  rcases hq : S.nd A with _ | g
  · have hv : S.vl A = none := by
      rcases hv : S.vl A with _ | v
      · rfl
      · exact absurd hq (hT.vnd A (by rw [hv]; simp))
    rw [hq] at F
    rw [hv]
    unfold ptr at F
    clear hT hA hq hv
    go_enter Try.func15, Try.ntmps15
    go_wp2_with (go_at_call 23; refine F.mono ?_; rintro e w5 ⟨rfl, hw⟩; replace hw := hw.symm; subst hw)
    go_ret2
    exact ⟨rfl, rfl⟩
  · have c1 := hT.c1 A g hq
    have c2 := hT.c2 A g hq
    rw [hq] at F
    unfold ptr at F
    clear hT hA hq
    rcases hv : S.vl A with _ | v
    · rw [hv] at c1 c2
      simp only [Option.isSome_none] at c1
      clear hv
      go_enter Try.func15, Try.ntmps15
      go_wp2_with (go_at_call 23; refine F.mono ?_; rintro e w5 ⟨rfl, hw⟩; replace hw := hw.symm; subst hw)
      go_ret2
      exact ⟨rfl, rfl⟩
    · rw [hv] at c1 c2
      simp only [Option.isSome_some, Option.getD_some] at c1 c2
      clear hv
      go_enter Try.func15, Try.ntmps15
      go_wp2_with (go_at_call 23; refine F.mono ?_; rintro e w5 ⟨rfl, hw⟩; replace hw := hw.symm; subst hw)
      go_ret2
      exact ⟨rfl, rfl⟩
theorem put_none (ca : Nat) (ao : Option Addr) (v : Int) (tb : Nat) (w : World) :
   Calls Try.prog 9 #[.pointer (some ⟨tb, 0, none⟩), .slice ao 0 ca, .int .i64 v] w fun e w' => e = .returned (.tuple #[.bool false, .int .i64 8]) ∧ w' = w := by
  go_enter Try.func9, Try.ntmps9
  go_wp2_with fail
  go_ret2
  exact ⟨rfl, rfl⟩
theorem put_big (n ca : Nat) (ao : Option Addr) (v : Int) (tb : Nat) (w : World) (h1 : 128 < n) (h2 : n ≤ 1000000) :
   Calls Try.prog 9 #[.pointer (some ⟨tb, 0, none⟩), .slice ao n ca, .int .i64 v] w fun e w' => e = .returned (.tuple #[.bool false, .int .i64 2]) ∧ w' = w := by
  go_enter Try.func9, Try.ntmps9
  go_wp2_with fail
  go_ret2
  exact ⟨rfl, rfl⟩
theorem put_there (ao : Option Addr) (n ca : Nat) (A : List Int) (v x : Int) (w : World) (B tb NB cnt : Nat) (S : TS) (vl : List Int → Option Int) (h : TA w B tb S vl NB cnt) (hA : Tk w ao n A) (h1 : 1 ≤ n) (h2 : n ≤ 128) (hx : vl A = some x) :
   Calls Try.prog 9 #[.pointer (some ⟨tb, 0, none⟩), .slice ao n ca, .int .i64 v] w fun e w' => e = .returned (.tuple #[.bool false, .int .i64 0]) ∧ (∃ S', TA w' B tb S' (upd vl A (some v)) NB cnt ∧ Own S w S' w' 128) ∧ Below B w w' := by
  obtain ⟨hT, rfl, hD, hL, hC⟩ := h
  have F := find_any ao n ca A w B tb NB cnt S hT hA
  obtain ⟨g, hq⟩ : ∃ g, S.nd A = some g := Option.ne_none_iff_exists'.1 (hT.vnd A (by rw [hx]; simp))
  have c1 := hT.c1 A g hq
  have c2 := hT.c2 A g hq
  have f2 := hT.fr A g hq 2 (by decide)
  rw [hx] at c1 c2
  simp only [Option.isSome_some, Option.getD_some] at c1 c2
  rw [hq] at F
  unfold ptr at F
  have oc : ∀ o, o ≠ 2 → (w.setCell ⟨g, 2, none⟩ (.int .i64 v)).cell? ⟨g, o, none⟩ = w.cell? ⟨g, o, none⟩ := fun o ho => World.cell?_setCell_other _ _ _ _ (by intro e; injection e with e1 e2; exact ho e2.symm)
  have hT2 : Hid (∃ S', TA (w.setCell ⟨g, 2, none⟩ (.int .i64 v)) B tb S' (upd S.vl A (some v)) NB cnt ∧ Own S w S' (w.setCell ⟨g, 2, none⟩ (.int .i64 v)) 128) := ⟨_, ⟨hT.val hq v (fun y hy => Below.heap_setCell _ _ _ y hy) (oc 0 (by decide)) (oc 3 (by decide)) ((oc 1 (by decide)).trans c1) (World.cell?_setCell_same _ _ _ c2) (fun j => World.frozen?_setCell _ _ _ _), rfl, hD, by
    obtain ⟨L, h1, h2, h3⟩ := hL
    refine ⟨L, h1, h2, fun q => ?_⟩
    rw [h3 q]
    by_cases e : q = A
    · subst e; rw [upd_same, hx]; simp
    · rw [upd_other _ _ e], hC⟩, Own.of (fun q x hq2 => Or.inl hq2) (fun q x hq2 => Or.inl hq2) (by simp) (fun x hx hn => Below.heap_setCell _ _ _ x (fun e => hn (Or.inl ⟨_, (show x = g from e) ▸ hq⟩)))⟩
  have BB : Hid (Below B w (w.setCell ⟨g, 2, none⟩ (.int .i64 v))) := (Below.refl B w).setCell (hT.base _ _ hq) _
  clear hT hA hq hx oc
  go_enter Try.func9, Try.ntmps9
  go_wp2_with (go_at_call 23; refine F.mono ?_; rintro e w5 ⟨rfl, hw⟩; replace hw := hw.symm; subst hw)
  go_ret2
  exact ⟨rfl, hT2.out, BB.out⟩
set_option maxRecDepth 8000 in
theorem put_full (ao : Option Addr) (n ca : Nat) (A : List Int) (v : Int) (w : World) (B tb NB cnt : Nat) (S : TS) (vl : List Int → Option Int) (h : TA w B tb S vl NB cnt) (hA : Tk w ao n A) (h1 : 1 ≤ n) (h2 : n ≤ 128) (hx : vl A = none) (hc : 1000 ≤ cnt) :
   Calls Try.prog 9 #[.pointer (some ⟨tb, 0, none⟩), .slice ao n ca, .int .i64 v] w fun e w' => e = .returned (.tuple #[.bool false, .int .i64 10]) ∧ w' = w := by
  obtain ⟨hT, rfl, hD, hL, hC⟩ := h
  have F := find_any ao n ca A w B tb NB cnt S hT hA
  have cc := hT.cc
  rcases hq : S.nd A with _ | g
  · rw [hq] at F
    unfold ptr at F
    clear hT hA hq hx
    go_enter Try.func9, Try.ntmps9
    go_wp2_with (go_at_call 23; refine F.mono ?_; rintro e w5 ⟨rfl, hw⟩; replace hw := hw.symm; subst hw)
    go_ret2
    exact ⟨rfl, rfl⟩
  · have c1 := hT.c1 A g hq
    rw [hx] at c1
    simp only [Option.isSome_none] at c1
    rw [hq] at F
    unfold ptr at F
    clear hT hA hq hx
    go_enter Try.func9, Try.ntmps9
    go_wp2_with (go_at_call 23; refine F.mono ?_; rintro e w5 ⟨rfl, hw⟩; replace hw := hw.symm; subst hw)
    go_ret2
    exact ⟨rfl, rfl⟩
set_option maxRecDepth 8000 in
set_option maxHeartbeats 1000000 in
theorem put_new (ao : Option Addr) (n ca : Nat) (A : List Int) (v : Int) (w : World) (B tb NB cnt : Nat) (S : TS) (vl : List Int → Option Int) (h : TA w B tb S vl NB cnt) (hA : Tk w ao n A) (hne : ∀ b o, ao = some ⟨b, o, none⟩ → w.cell? ⟨b, 0, none⟩ = some (.int .i64 (A.getD 0 0))) (h1 : 1 ≤ n) (h2 : n ≤ 128) (hx : vl A = none) (hc : cnt < 1000) (hN : NB + n < 1000000000) :
   Calls Try.prog 9 #[.pointer (some ⟨tb, 0, none⟩), .slice ao n ca, .int .i64 v] w fun e w' => e = .returned (.tuple #[.bool true, .int .i64 0]) ∧ (∃ S', TA w' B tb S' (upd vl A (some v)) (NB + n) (cnt + 1) ∧ Own S w S' w' 128) ∧ Below B w w' := by
  obtain ⟨hT, rfl, hD, hL, hC⟩ := h
  have F := find_any ao n ca A w B tb NB cnt S hT hA
  have cc := hT.cc
  have G := grow_any ao n ca A w B tb NB cnt S hT hA (fun p b o e hp => by have := hT.c0 p b hp; rw [hne b o e] at this; cases this) hN
  have HE : Hid (∀ w2 g S', TI w2 B tb S' (NB + n) cnt → S'.nd A = some g → S'.vl = S.vl → Below B w w2 → Own S w S' w2 n →
      w2.cell? ⟨g, 1, none⟩ = some (.bool false) ∧ w2.cell? ⟨g, 2, none⟩ = some (.int .i64 0) ∧ w2.frozen? ⟨g, 1, none⟩ = false ∧ w2.frozen? ⟨g, 2, none⟩ = false ∧
      ((w2.setCell ⟨g, 1, none⟩ (.bool true)).setCell ⟨g, 2, none⟩ (.int .i64 v)).cell? ⟨tb, 3, none⟩ = some (.int .i64 (cnt : Int)) ∧ ((w2.setCell ⟨g, 1, none⟩ (.bool true)).setCell ⟨g, 2, none⟩ (.int .i64 v)).frozen? ⟨tb, 3, none⟩ = false ∧
      (∃ S'', TA (((w2.setCell ⟨g, 1, none⟩ (.bool true)).setCell ⟨g, 2, none⟩ (.int .i64 v)).setCell ⟨tb, 3, none⟩ (.int .i64 ((cnt + 1 : Nat) : Int))) B tb S'' (upd S.vl A (some v)) (NB + n) (cnt + 1) ∧ Own S w S'' (((w2.setCell ⟨g, 1, none⟩ (.bool true)).setCell ⟨g, 2, none⟩ (.int .i64 v)).setCell ⟨tb, 3, none⟩ (.int .i64 ((cnt + 1 : Nat) : Int))) 128) ∧
      Below B w (((w2.setCell ⟨g, 1, none⟩ (.bool true)).setCell ⟨g, 2, none⟩ (.int .i64 v)).setCell ⟨tb, 3, none⟩ (.int .i64 ((cnt + 1 : Nat) : Int)))) := by
    intro w2 g S' T2 hg hvl B2 O2
    have c1 := T2.c1 A g hg
    have c2 := T2.c2 A g hg
    rw [hvl, hx] at c1 c2
    have o1 : ∀ o, o ≠ 1 → o ≠ 2 → ((w2.setCell ⟨g, 1, none⟩ (.bool true)).setCell ⟨g, 2, none⟩ (.int .i64 v)).cell? ⟨g, o, none⟩ = w2.cell? ⟨g, o, none⟩ := fun o h1 h2 => by
      rw [World.cell?_setCell_other _ _ _ _ (by intro e; injection e with e1 e2; exact h2 e2.symm), World.cell?_setCell_other _ _ _ _ (by intro e; injection e with e1 e2; exact h1 e2.symm)]
    have hb : ∀ y, y ≠ g → ((w2.setCell ⟨g, 1, none⟩ (.bool true)).setCell ⟨g, 2, none⟩ (.int .i64 v)).heap[y]? = w2.heap[y]? := fun y hy => by
      rw [Below.heap_setCell _ _ _ y hy, Below.heap_setCell _ _ _ y hy]
    have k1 : ((w2.setCell ⟨g, 1, none⟩ (.bool true)).setCell ⟨g, 2, none⟩ (.int .i64 v)).cell? ⟨g, 1, none⟩ = some (.bool true) := by
      rw [World.cell?_setCell_other _ _ _ _ (by simp)]; exact World.cell?_setCell_same _ _ _ c1
    have k2 : ((w2.setCell ⟨g, 1, none⟩ (.bool true)).setCell ⟨g, 2, none⟩ (.int .i64 v)).cell? ⟨g, 2, none⟩ = some (.int .i64 v) :=
      World.cell?_setCell_same _ _ _ (by rw [World.cell?_setCell_other _ _ _ _ (by simp)]; exact c2)
    have T3 := T2.val hg v hb (o1 0 (by decide) (by decide)) (o1 3 (by decide) (by decide)) k1 k2 (fun j => by rw [World.frozen?_setCell, World.frozen?_setCell])
    have T4 := T3.count (cnt + 1)
    exact ⟨c1, c2, T2.fr A g hg 1 (by decide), T2.fr A g hg 2 (by decide), T3.cc, T3.cf, ⟨_, ⟨T4, by show upd S'.vl A (some v) = _; rw [hvl], fun q hq => by rcases O2.deep q hq with a | a; exact hD q a; omega, by
      obtain ⟨L, l1, l2, l3⟩ := hL
      refine ⟨A :: L, List.nodup_cons.2 ⟨fun h => (l3 A).1 h hx, l1⟩, by simp [l2], fun q => ?_⟩
      rw [List.mem_cons, l3 q]
      by_cases e : q = A
      · subst e; rw [upd_same]; simp
      · rw [upd_other _ _ e]; simp [e], by omega⟩, (O2.wider h2).trans (Own.of (fun q x hq2 => Or.inl hq2) (fun q x hq2 => Or.inl hq2) (by simp) (fun x hx hn => by rw [Below.heap_setCell _ _ _ x (fun e => hn (Or.inl ⟨_, (show x = tb from e) ▸ T2.root⟩)), hb x (fun e => hn (Or.inl ⟨_, e ▸ hg⟩))])) (Nat.le_refl _)⟩, ((B2.setCell (T2.base _ _ hg) _).setCell (T2.base _ _ hg) _).setCell (T2.base _ _ T2.root) _⟩
  rcases hq : S.nd A with _ | g
  · rw [hq] at F
    unfold ptr at F
    clear hT hA hq hx hne
    go_enter Try.func9, Try.ntmps9
    go_wp2_with (first
      | (go_at_call 23; refine F.mono ?_; rintro e w5 ⟨rfl, hw⟩; replace hw := hw.symm; subst hw)
      | (go_at_call 24; refine G.mono ?_; rintro e w6 ⟨g, S', rfl, T2, hg, hvl, B2, O2⟩; obtain ⟨d1, d2, d3, d4, d5, d6, d7, d8⟩ := HE.out w6 g S' T2 hg hvl B2 O2; clear T2 hg hvl B2 O2))
    have ec : ((cnt + 1 : Nat) : Int) = (cnt : Int) + 1 := by omega
    rw [ec] at d7 d8
    go_ret2
    exact ⟨rfl, d7, d8⟩
  · have c1 := hT.c1 A g hq
    rw [hx] at c1
    simp only [Option.isSome_none] at c1
    rw [hq] at F
    unfold ptr at F
    clear hT hA hq hx hne
    go_enter Try.func9, Try.ntmps9
    go_wp2_with (first
      | (go_at_call 23; refine F.mono ?_; rintro e w5 ⟨rfl, hw⟩; replace hw := hw.symm; subst hw)
      | (go_at_call 24; refine G.mono ?_; rintro e w6 ⟨g2, S', rfl, T2, hg, hvl, B2, O2⟩; obtain ⟨d1, d2, d3, d4, d5, d6, d7, d8⟩ := HE.out w6 g2 S' T2 hg hvl B2 O2; clear T2 hg hvl B2 O2))
    have ec : ((cnt + 1 : Nat) : Int) = (cnt : Int) + 1 := by omega
    rw [ec] at d7 d8
    go_ret2
    exact ⟨rfl, d7, d8⟩
end Go.Proofs.Ytomfkdaaimhmkaa
