/- Package trie's prune and Drop: a row is gone, and of its beginnings those that no row has any more. -/
import Derived.Test.YtomfkdaaimhmkaaTKeep
import Derived.Deep.RegionHeld3
import Derived.Deep.CutRange
namespace Go.Proofs.Ytomfkdaaimhmkaa
open Go.ChangeShapes Go.WideShapes Go.ChangeAt Go.RowKit Go.Maps
theorem MapOf.del {w : World} {b n : Nat} {f : Int → Option Nat} (h : MapOf w b n f) (x : Int) (hx : (Lit.int .i64 x).wf = true) (ty : TypeId) :
    ∃ w', (Builtin.delete_ #[24, 3] ty #[.map (some b), .int .i64 x]).run Try.prog w = .ok (.tuple #[]) w' ∧ MapOf w' b n (fun y => if y = x then none else f y) ∧ w.mapTurned w' b := by
  obtain ⟨D, hown, hat, hh⟩ := h
  obtain ⟨w', hrun, hown', hg⟩ := hown.drop lawI Try.underlying24 (keyOf_int_mk Try.underlying3 hx) ty
  refine ⟨w', hrun, ⟨_, hown', fun y => ?_, fun y => ?_⟩, hg⟩
  · show _ = DataW.held (ptr (if y = x then none else f y))
    by_cases e : y = x
    · subst e; rw [if_pos rfl, atKey_del_same]; rfl
    · rw [if_neg e, atKey_del_other (by simpa using e), hat y]
  · show _ = (if y = x then none else f y).isSome
    by_cases e : y = x
    · subst e; rw [if_pos rfl, has_del_same]; rfl
    · rw [if_neg e, has_del_other (by simpa using e), hh y]
theorem MapOf.len {w : World} {b n : Nat} {f : Int → Option Nat} (h : MapOf w b n f) :
    ∃ m : Nat, (∀ ty, (Builtin.len_ #[24] ty #[.map (some b)]).run Try.prog w = .ok (.int .i64 (m : Int)) w) ∧ m ≤ n ∧ (m = 0 → ∀ x, f x = none) := by
  obtain ⟨D, hown, hat, hh⟩ := h
  refine ⟨Maps.size D, fun ty => hown.len Try.underlying24 ty, hown.size_le, fun h0 x => ?_⟩
  obtain ⟨es, rfl, _⟩ := hown.keysOf
  have e : es = [] := List.length_eq_zero_iff.1 h0
  have := hh x
  rw [e] at this
  cases hf : f x with
  | none => rfl
  | some g => rw [hf] at this; simp [has_eq] at this
theorem wp_del {o : Oper} {a : Act} {K : Act → World → Prop} {Q : Exit → Act → World → Prop} {w : World} (s x : Operand)
    (ho : o.op = .call { callee := .builtin .delete, args := #[s, x], argTypes := #[24, 3] }) (b : Nat) (y : Int) (hs : a.eval s = .map (some b)) (hx : a.eval x = .int .i64 y) (w' : World)
    (hr : (Builtin.delete_ #[24, 3] o.type #[.map (some b), .int .i64 y]).run Try.prog w = .ok (.tuple #[]) w') (h : K (a.put o.dst (.tuple #[])) w') : o.wp Try.prog a w K Q := by
  unfold Oper.wp execOp
  simp only [ho, resolve, invoke, builtin, Sem.run_bind, Sem.run_pure, Result.andThen_ok, List.map_toArray, List.map_cons, List.map_nil, hs, hx, hr]
  exact h
/-- A node that leads nowhere is gone. -/
theorem TI.delNode {w w2 : World} {B tb NB cnt n b : Nat} {S : TS} (h : TI w B tb S NB cnt) {p : List Int} {k : Int} (hm : S.mp p = some b) (hv : S.vl (p ++ [k]) = none) (hc : ∀ y, S.nd (p ++ [k] ++ [y]) = none)
    (hM : MapOf w2 b n (fun y => if y = k then none else S.nd (p ++ [y]))) (hn : n ≤ NB) (ht : w.mapTurned w2 b) :
    TI w2 B tb { S with nd := upd S.nd (p ++ [k]) none, mp := upd S.mp (p ++ [k]) none } NB cnt := by
  have hG := ht.grown
  have hbk : ∀ x, x < w.heap.size → x ≠ b → w2.heap[x]? = w.heap[x]? := fun x hx hb => hG.block x hx (by simpa using hb)
  have pn : ∀ q g, upd S.nd (p ++ [k]) none q = some g → q ≠ p ++ [k] ∧ S.nd q = some g := fun q g hq => by
    by_cases e : q = p ++ [k]
    · rw [e, upd_same] at hq; cases hq
    · rw [upd_other _ _ e] at hq; exact ⟨e, hq⟩
  have pm : ∀ q g, upd S.mp (p ++ [k]) none q = some g → q ≠ p ++ [k] ∧ S.mp q = some g := fun q g hq => by
    by_cases e : q = p ++ [k]
    · rw [e, upd_same] at hq; cases hq
    · rw [upd_other _ _ e] at hq; exact ⟨e, hq⟩
  have cl : ∀ q g, S.nd q = some g → w2.heap[g]? = w.heap[g]? := fun q g hq => hbk g (h.lt hq) (fun e => h.mne hq hm e.symm)
  have r0 : ([] : List Int) ≠ p ++ [k] := fun e => by have := congrArg List.length e; simp at this
  refine ⟨by show upd S.nd (p ++ [k]) none [] = _; rw [upd_other _ _ r0]; exact h.root, ?_, ?_, ?_, ?_, ?_, ?_, ?_, ?_, ?_, ?_, ?_, ?_, ?_, ?_⟩
  · intro q g hq; exact h.base q g (pn q g hq).2
  · intro q g hq; exact h.mbase q g (pm q g hq).2
  · intro q g hq
    obtain ⟨e, hq'⟩ := pn q g hq
    rw [World.cell?_of_block (w := w) (a := ⟨g, 0, none⟩) (cl q g hq')]
    show _ = some (Value.map (upd S.mp (p ++ [k]) none q))
    rw [upd_other _ _ e]; exact h.c0 q g hq'
  · intro q g hq
    obtain ⟨e, hq'⟩ := pn q g hq
    rw [World.cell?_of_block (w := w) (a := ⟨g, 1, none⟩) (cl q g hq')]; exact h.c1 q g hq'
  · intro q g hq
    obtain ⟨e, hq'⟩ := pn q g hq
    rw [World.cell?_of_block (w := w) (a := ⟨g, 2, none⟩) (cl q g hq')]; exact h.c2 q g hq'
  · intro q g hq j hj
    obtain ⟨e, hq'⟩ := pn q g hq
    rw [World.frozen?_of_block (w := w) (a := ⟨g, j, none⟩) (cl q g hq')]; exact h.fr q g hq' j hj
  · intro q b' hq
    obtain ⟨e, hq'⟩ := pm q b' hq
    by_cases ep : q = p
    · subst ep
      obtain rfl : b = b' := by rw [hm] at hq'; injection hq'
      refine ⟨n, hn, hM.mono fun y => ?_⟩
      show _ = upd S.nd (q ++ [k]) none (q ++ [y])
      by_cases ey : y = k
      · subst ey; rw [if_pos rfl, upd_same]
      · rw [if_neg ey, upd_other _ _ (fun h => ey (snoc_inj h).2)]
    · obtain ⟨n1, hn1, hx⟩ := h.m1 q b' hq'
      have hbb : b' ≠ b := fun e => ep (h.minj q p b (e ▸ hq') hm)
      refine ⟨n1, hn1, (hx.keep (hbk b' (h.mlt hq') hbb)).mono fun y => ?_⟩
      show _ = upd S.nd (p ++ [k]) none (q ++ [y])
      rw [upd_other _ _ (fun h => ep (snoc_inj h).1)]
  · intro q hq y
    show upd S.nd (p ++ [k]) none (q ++ [y]) = none
    replace hq : upd S.mp (p ++ [k]) none q = none := hq
    by_cases e : q ++ [y] = p ++ [k]
    · rw [e, upd_same]
    · rw [upd_other _ _ e]
      by_cases e2 : q = p ++ [k]
      · rw [e2]; exact hc y
      · rw [upd_other _ _ e2] at hq; exact h.m0 q hq y
  · intro q r g hq hr; exact h.inj q r g (pn q g hq).2 (pn r g hr).2
  · intro q r g hq hr; exact h.minj q r g (pm q g hq).2 (pm r g hr).2
  · intro q hq
    replace hq : upd S.mp (p ++ [k]) none q ≠ none := hq
    obtain ⟨g, hg⟩ := Option.ne_none_iff_exists'.1 hq
    obtain ⟨e, hq'⟩ := pm q g hg
    show upd S.nd (p ++ [k]) none q ≠ none
    rw [upd_other _ _ e]; exact h.mnd q (by rw [hq']; simp)
  · intro q hq
    show upd S.nd (p ++ [k]) none q ≠ none
    by_cases e : q = p ++ [k]
    · exact absurd hv (e ▸ hq)
    · rw [upd_other _ _ e]; exact h.vnd q hq
  · rw [World.cell?_of_block (w := w) (a := ⟨tb, 3, none⟩) (cl [] tb h.root)]; exact h.cc
  · rw [World.frozen?_of_block (w := w) (a := ⟨tb, 3, none⟩) (cl [] tb h.root)]; exact h.cf
theorem Tk.head {w : World} {b o n : Nat} {a : Int} {A : List Int} (h : Tk w (some ⟨b, o, none⟩) n (a :: A)) : w.cell? ⟨b, o, none⟩ = some (.int .i64 a) ∧ (-9223372036854775808 ≤ a ∧ a ≤ 9223372036854775807) ∧ n = A.length + 1 := by
  have hl := h.len
  simp only [List.length_cons] at hl
  obtain ⟨b', o', e, hc⟩ := h.cells (by omega)
  injection e with e
  injection e with e1 e2 _
  subst e1 e2
  have := hc 0 (by omega)
  rw [Nat.add_zero] at this
  exact ⟨this, h.small 0, hl.symm⟩
theorem Tk.tail {w : World} {b o n : Nat} {a : Int} {A : List Int} (h : Tk w (some ⟨b, o, none⟩) n (a :: A)) : Tk w (some ⟨b, o + 1, none⟩) (n - 1) A := by
  have hl := h.len
  simp only [List.length_cons] at hl
  have hmx := h.max
  refine ⟨by omega, by omega, fun k => h.small (k + 1), fun hn => ?_⟩
  obtain ⟨b', o', e, hc⟩ := h.cells (by omega)
  injection e with e
  injection e with e1 e2 _
  subst e1 e2
  refine ⟨_, _, rfl, fun t ht => ?_⟩
  have := hc (t + 1) (by omega)
  rw [show o + 1 + t = o + (t + 1) by omega]
  exact this
/-- What prune leaves. -/
structure Pru (w w' : World) (B tb NB cnt : Nat) (S S' : TS) (p : List Int) (g : Nat) : Prop where
  ti : TI w' B tb S' NB cnt
  vl : S'.vl = S.vl
  nd : S'.nd p = some g
  snd : ∀ q x, S'.nd q = some x → S.nd q = some x
  smp : ∀ q x, S'.mp q = some x → S.mp q = some x
  own : Own S w S' w' 0
  bel : Below B w w'
theorem Pru.refl {w : World} {B tb NB cnt : Nat} {S : TS} {p : List Int} {g : Nat} (h : TI w B tb S NB cnt) (hg : S.nd p = some g) : Pru w w B tb NB cnt S S p g := ⟨h, rfl, hg, fun _ _ h => h, fun _ _ h => h, Own.refl _ _ _, Below.refl _ _⟩
set_option maxRecDepth 100000 in
set_option maxHeartbeats 8000000 in
theorem prune_any (B tb NB cnt : Nat) (hN : NB < 1000000000) :
    ∀ (A : List Int) (p : List Int) (g : Nat) (ao : Option Addr) (n ca : Nat) (w : World) (S : TS), TI w B tb S NB cnt → S.nd p = some g → S.nd (p ++ A) ≠ none → Tk w ao n A → n ≤ ca → ca ≤ 9223372036854775807 → (∀ b o, ao = some ⟨b, o, none⟩ → ¬ S.has b) →
    Calls Try.prog 25 #[.pointer (some ⟨g, 0, none⟩), .slice ao n ca] w fun e w' => e = .returned (.tuple #[]) ∧ ∃ S', Pru w w' B tb NB cnt S S' p g
  | [], p, g, ao, n, ca, w, S, hT, hg, hp, hA, hf, hm, hne => by
    have hl := hA.len
    obtain rfl : 0 = n := by simpa using hl
    have HP : Hid (Pru w w B tb NB cnt S S p g) := Pru.refl hT hg
    clear hT hg hp hA hne hl hm hf
    go_enter Try.func25, Try.ntmps25
    go_wp2_with fail
    refine bodyPost_ret (results_none rfl _ _ _) rfl ?_
    exact ⟨rfl, S, HP.out⟩
  | a :: A, p, g, ao, n, ca, w, S, hT, hg, hp, hA, hf, hm, hne => by
    obtain ⟨b, o, rfl, _⟩ := hA.cells (by have := hA.len; simp only [List.length_cons] at this; omega)
    obtain ⟨ca0, hain, hlen⟩ := hA.head
    have hwfa := wfI a hain.1 hain.2
    have hmx := hA.max
    obtain ⟨g2, hg2⟩ : ∃ g2, S.nd (p ++ [a]) = some g2 := Option.ne_none_iff_exists'.1 (hT.front (p ++ [a]) A (by rw [List.append_assoc]; exact hp))
    obtain ⟨mb, hmb⟩ : ∃ mb, S.mp p = some mb := by
      rcases hmm : S.mp p with _ | mb
      · have := hT.m0 p hmm a; rw [hg2] at this; cases this
      · exact ⟨mb, rfl⟩
    have c0 := hT.c0 p g hg
    rw [hmb] at c0
    obtain ⟨n1, hn1, hM1⟩ := hT.m1 p mb hmb
    have lk := hM1.look a hwfa
    rw [hg2] at lk
    have lkd : (Instr.lookup 24 (.map (some mb)) (.int .i64 a) false).run Try.prog w.drew = .ok (.pointer (some ⟨g2, 0, none⟩)) w.drew := by
      have h := (hM1.keep (w' := w.drew) rfl).look a hwfa
      rw [hg2] at h
      exact h
    have IH := prune_any B tb NB cnt hN A
    have HNE : Hid (∀ b' o', (some ⟨b, o, none⟩ : Option Addr) = some ⟨b', o', none⟩ → ¬ S.has b') := hne
    have HG : Hid (S.nd p = some g) := hg
    have HG2 : Hid (S.nd (p ++ [a]) = some g2) := hg2
    have HMB : Hid (S.mp p = some mb) := hmb
    have HPA : Hid (S.nd (p ++ [a] ++ A) ≠ none) := by show _ ≠ _; rw [List.append_assoc]; exact hp
    have HIH : Hid (∀ (p : List Int) (g : Nat) (ao : Option Addr) (n ca : Nat) (w : World) (S : TS), TI w B tb S NB cnt → S.nd p = some g → S.nd (p ++ A) ≠ none → Tk w ao n A → n ≤ ca → ca ≤ 9223372036854775807 → (∀ b o, ao = some ⟨b, o, none⟩ → ¬ S.has b) →
      Calls Try.prog 25 #[.pointer (some ⟨g, 0, none⟩), .slice ao n ca] w fun e w' => e = .returned (.tuple #[]) ∧ ∃ S', Pru w w' B tb NB cnt S S' p g) := IH
    clear IH hne hg hg2 hmb hp hM1
    have hn0 : ¬ n = 0 := by omega
    have h1n : 1 ≤ n := by omega
    have h1c : 1 ≤ ca := by omega
    have HLEN : Hid (n = A.length + 1) := hlen
    have hnz : ((n : Int) == 0) = false := by simp; omega
    clear hlen
    go_enter Try.func25, Try.ntmps25
    go_upto_region 1 with fail
    refine wp_region_held_drew (S := fun w' => w'.cell? ⟨g, 0, none⟩ = some (.map (some mb)) ∧ w'.cell? ⟨b, o, none⟩ = some (.int .i64 a) ∧ (Instr.lookup 24 (.map (some mb)) (.int .i64 a) false).run Try.prog w' = .ok (.pointer (some ⟨g2, 0, none⟩)) w') (by kernel_rfl) (⟨c0, ca0, lkd⟩) (fun hHeld => ?_)
    have hT1 : TI w.drew B tb S NB cnt := hT.same (fun _ _ _ => rfl) (fun _ _ _ => rfl)
    have hA1 : Tk w.drew (some ⟨b, o, none⟩) n (a :: A) := hA.below (Below.refl _ _).drew
    have Bd : Below w.heap.size w w.drew := (Below.refl _ _).drew
    have hzd : Hid (w.drew.heap.size = w.heap.size) := rfl
    have hkd : Hid (∀ x : Nat, w.drew.heap[x]? = w.heap[x]?) := fun _ => rfl
    clear hT hA c0 ca0 lkd lk
    generalize hwd : w.drew = wd at *
    clear hwd
    refine wpAnyH_take (i := 0) (v := (.pointer (some ⟨g, 0, none⟩))) rfl (by kernel_rfl) (by kernel_rfl) (by kernel_rfl) (fun _ _ _ h => h) (Or.inl ⟨by rfl, ?_⟩) (by assumption) ?_
    · intro w' hSw
      go_simp
    simp only [List.getElem_toArray, List.getElem_cons_zero, Act.put, List.setIfInBounds_toArray, List.set_cons_zero, List.set_cons_succ]
    refine wpAnyH_take (i := 1) (v := (.pointer (some ⟨g, 0, none⟩))) rfl (by kernel_rfl) (by kernel_rfl) (by kernel_rfl) (fun _ _ _ h => h) (Or.inl ⟨by rfl, ?_⟩) (by assumption) ?_
    · intro w' hSw
      go_simp
    simp only [List.getElem_toArray, List.getElem_cons_succ, List.getElem_cons_zero, Act.put, List.setIfInBounds_toArray, List.set_cons_zero, List.set_cons_succ]
    refine wpAnyH_take (i := 2) (v := (.pointer (some ⟨g, 0, none⟩))) rfl (by kernel_rfl) (by kernel_rfl) (by kernel_rfl) (fun _ _ _ h => h) (Or.inl ⟨by rfl, ?_⟩) (by assumption) ?_
    · intro w' hSw
      go_simp
    simp only [List.getElem_toArray, List.getElem_cons_succ, List.getElem_cons_zero, Act.put, List.setIfInBounds_toArray, List.set_cons_zero, List.set_cons_succ]
    refine wpAnyH_take (i := 3) (v := (.map (some mb))) rfl (by kernel_rfl) (by kernel_rfl) (by kernel_rfl) (fun _ _ _ h => h) (Or.inl ⟨by rfl, ?_⟩) (by assumption) ?_
    · intro w' hSw
      have y0 := hSw.1
      go_simp
    simp only [List.getElem_toArray, List.getElem_cons_succ, List.getElem_cons_zero, Act.put, List.setIfInBounds_toArray, List.set_cons_zero, List.set_cons_succ]
    refine wpAnyH_take (i := 4) (v := (.slice (some ⟨b, o, none⟩) n ca)) rfl (by kernel_rfl) (by kernel_rfl) (by kernel_rfl) (fun _ _ _ h => h) (Or.inl ⟨by rfl, ?_⟩) (by assumption) ?_
    · intro w' hSw
      go_simp
    simp only [List.getElem_toArray, List.getElem_cons_succ, List.getElem_cons_zero, Act.put, List.setIfInBounds_toArray, List.set_cons_zero, List.set_cons_succ]
    refine wpAnyH_take (i := 5) (v := (.pointer (some ⟨b, o, none⟩))) rfl (by kernel_rfl) (by kernel_rfl) (by kernel_rfl) (fun _ _ _ h => h) (Or.inl ⟨by rfl, ?_⟩) (by assumption) ?_
    · intro w' hSw
      go_simp
    simp only [List.getElem_toArray, List.getElem_cons_succ, List.getElem_cons_zero, Act.put, List.setIfInBounds_toArray, List.set_cons_zero, List.set_cons_succ]
    refine wpAnyH_take (i := 6) (v := (.int .i64 a)) rfl (by kernel_rfl) (by kernel_rfl) (by kernel_rfl) (fun _ _ _ h => h) (Or.inl ⟨by rfl, ?_⟩) (by assumption) ?_
    · intro w' hSw
      have y0 := hSw.2.1
      go_simp
    simp only [List.getElem_toArray, List.getElem_cons_succ, List.getElem_cons_zero, Act.put, List.setIfInBounds_toArray, List.set_cons_zero, List.set_cons_succ]
    refine wpAnyH_take (i := 7) (v := (.pointer (some ⟨g2, 0, none⟩))) rfl (by kernel_rfl) (by kernel_rfl) (by kernel_rfl) (fun _ _ _ h => h) (Or.inl ⟨by rfl, ?_⟩) (by assumption) ?_
    · intro w' hSw
      have y0 := hSw.2.2
      go_simp
    simp only [List.getElem_toArray, List.getElem_cons_succ, List.getElem_cons_zero, Act.put, List.setIfInBounds_toArray, List.set_cons_zero, List.set_cons_succ]
    refine wpAnyH_take (i := 8) (v := (.pointer (some ⟨g2, 0, none⟩))) rfl (by kernel_rfl) (by kernel_rfl) (by kernel_rfl) (fun _ _ _ h => h) (Or.inl ⟨by rfl, ?_⟩) (by assumption) ?_
    · intro w' hSw
      go_simp
    simp only [List.getElem_toArray, List.getElem_cons_succ, List.getElem_cons_zero, Act.put, List.setIfInBounds_toArray, List.set_cons_zero, List.set_cons_succ]
    refine wpAnyH_done (by kernel_rfl) ?_ _
    clear hHeld
    have CP : ∀ ao', (0 < n - 1 → ao' = some ⟨b, o + 1, none⟩) → (∀ b' o', ao' = some ⟨b', o', none⟩ → b' = b) → Calls Try.prog 25 #[.pointer (some ⟨g2, 0, none⟩), .slice ao' (n - 1) (ca - 1)] wd fun e w' => e = .returned (.tuple #[]) ∧ ∃ S', Pru wd w' B tb NB cnt S S' (p ++ [a]) g2 := fun ao' h1 h2 => by
      refine HIH.out (p ++ [a]) g2 ao' (n - 1) (ca - 1) wd S hT1 HG2.out HPA.out ?_ (by omega) (by omega) (fun b' o' e => ?_)
      · have t := hA1.tail
        exact ⟨t.len, t.max, t.small, fun h0 => by rw [h1 h0]; exact t.cells h0⟩
      · rw [h2 b' o' e]; exact HNE.out b o rfl
    go_upto_region 2 with fail
    go_cut [4] from 16 to 19 (fun s4 wc => s4 = .pointer (some ⟨g2, 0, none⟩) ∧ ∃ S', Pru wd wc B tb NB cnt S S' (p ++ [a]) g2)
    case first =>
      by_cases hc1 : ca = 1
      · have hn11 : n = 1 := by omega
        subst hc1 hn11
        clear hf hm
        go_wp2_with (go_at_call 25; refine (CP _ (fun h => by omega) (fun b' o' e => by injection e with e; injection e with e1 _ _; exact e1.symm)).mono ?_; clear CP; rintro e w3 ⟨rfl, S1, PP⟩)
        go_meet
        case rel => exact ⟨rfl, S1, PP⟩
      · go_wp2_with (go_at_call 25; refine (CP _ (fun h => rfl) (fun b' o' e => by injection e with e; injection e with e1 _ _; exact e1.symm)).mono ?_; clear CP; rintro e w3 ⟨rfl, S1, PP⟩)
        go_meet
        case rel => exact ⟨rfl, S1, PP⟩
    case rest =>
    obtain ⟨rfl, S1, PP⟩ := hcut
    clear CP
    have T3 := PP.ti
    have hp3 : S1.nd p = some g := by
      obtain ⟨x, hx⟩ := Option.ne_none_iff_exists'.1 (T3.front p [a] (by rw [PP.nd]; simp))
      have := PP.snd p x hx
      rw [HG.out] at this
      injection this with this
      rw [hx, this]
    have hm3 : S1.mp p = some mb := by
      rcases hmm : S1.mp p with _ | x
      · have := T3.m0 p hmm a; rw [PP.nd] at this; cases this
      · have := PP.smp p x hmm
        rw [HMB.out] at this
        rw [this]
    have d0 := T3.c0 p g hp3
    rw [hm3] at d0
    have OW : Own S w S wd 0 := ⟨by rw [hzd.out]; exact Nat.le_refl _, fun x hx _ => hkd.out x, fun x h => Or.inl h, fun q h => Or.inl h⟩
    have O3 := OW.trans PP.own (Nat.le_refl _)
    have B3 : Below B w wc := (Bd.mono (by have := T3.base _ _ hp3; have := hT1.lt HG.out; rw [hzd.out] at this; omega)).trans PP.bel
    have d1 : wc.cell? ⟨b, o, none⟩ = some (.int .i64 a) := by
      have h1 := hA1.head.1
      rw [World.cell?_of_block (w := wd) (a := ⟨b, o, none⟩) (PP.own.kept b (cell_lt h1) (HNE.out b o rfl))]
      exact h1
    obtain ⟨n3, hn3, M3⟩ := T3.m1 p mb hm3
    have e1 := T3.c1 _ _ PP.nd
    have e0 := T3.c0 _ _ PP.nd
    have HK : Hid (Pru w wc B tb NB cnt S S1 p g) := ⟨T3, PP.vl, hp3, PP.snd, PP.smp, O3, B3⟩
    have HPP : Hid (Pru wd wc B tb NB cnt S S1 (p ++ [a]) g2) := PP
    have HT3 : Hid (TI wc B tb S1 NB cnt) := T3
    have HM3 : Hid (MapOf wc mb n3 (fun k => S1.nd (p ++ [k]))) := M3
    have Hm3 : Hid (S1.mp p = some mb) := hm3
    have Hp3 : Hid (S1.nd p = some g) := hp3
    clear T3 hp3 hm3 OW O3 B3 PP M3 hT1 hA1 hkd hzd Bd
    go_upto_region 3 with fail
    go_cut [32] from 20 to 32 (fun s32 wx => wx = wc ∧ (s32 = .bool false ∨ (s32 = .bool true ∧ S1.vl (p ++ [a]) = none ∧ ∀ y, S1.nd (p ++ [a] ++ [y]) = none)))
    case first =>
      rcases hv : S1.vl (p ++ [a]) with _ | v
      · rw [hv] at e1
        have HVN : Hid (S1.vl (p ++ [a]) = none) := hv
        simp only [Option.isSome_none] at e1
        rcases hmm : S1.mp (p ++ [a]) with _ | b2
        · rw [hmm] at e0
          have hall : Hid (∀ y, S1.nd (p ++ [a] ++ [y]) = none) := fun y => HT3.out.m0 _ hmm y
          clear hmm hv
          go_wp2_with fail
          go_meet
          case rel => exact ⟨rfl, Or.inr ⟨rfl, HVN.out, hall.out⟩⟩
        · rw [hmm] at e0
          obtain ⟨n4, hn4, M4⟩ := HT3.out.m1 _ b2 hmm
          obtain ⟨m, HL, hm4, hz4⟩ := M4.len
          by_cases hm0 : m = 0
          · have hall : Hid (∀ y, S1.nd (p ++ [a] ++ [y]) = none) := hz4 hm0
            subst hm0
            clear hmm hv hz4 M4
            go_wp2_with fail
            go_meet
            case rel => exact ⟨rfl, Or.inr ⟨rfl, HVN.out, hall.out⟩⟩
          · clear hmm hv hz4 M4
            go_wp2_with fail
            go_meet
            case rel => exact ⟨rfl, Or.inl (congrArg Value.bool (by simp; omega))⟩
      · rw [hv] at e1
        simp only [Option.isSome_some] at e1
        clear hv
        go_wp2_with fail
        go_meet
        case rel => exact ⟨rfl, Or.inl rfl⟩
    case rest =>
    obtain ⟨hwx, hs⟩ := hcut
    replace hwx := hwx.symm
    subst hwx
    clear e0 e1
    rcases hs with rfl | ⟨rfl, hv0, hc0⟩
    · go_wp2_with fail
      go_end0
      exact ⟨rfl, S1, HK.out⟩
    · have HV0 : Hid (S1.vl (p ++ [a]) = none) := hv0
      have HC0 : Hid (∀ y, S1.nd (p ++ [a] ++ [y]) = none) := hc0
      clear hv0 hc0
      have M3 := HM3.out
      go_upto_region 4 with fail
      refine wp_region_late (S := fun w' => w'.cell? ⟨g, 0, none⟩ = some (.map (some mb)) ∧ w'.cell? ⟨b, o, none⟩ = some (.int .i64 a)) 7 (by kernel_rfl) ⟨d0, d1⟩ (fun hHeld => ?_)
      have MD := M3.keep (w' := wc.drew) rfl
      have hkd3 : Hid (∀ x : Nat, wc.drew.heap[x]? = wc.heap[x]?) := fun _ => rfl
      have hzd3 : Hid (wc.drew.heap.size = wc.heap.size) := rfl
      have B3d : Below wc.heap.size wc wc.drew := (Below.refl _ _).drew
      generalize hwd3 : wc.drew = wd3 at *
      clear hwd3
      refine wpLate_pure (i := 0) (v := (.pointer (some ⟨g, 0, none⟩))) rfl (by decide) (by kernel_rfl) (by kernel_rfl) (by kernel_rfl) (fun _ _ _ h => h) (Or.inl ⟨by rfl, ?_⟩) (fun _ => by assumption) ?_
      · intro w' _
        go_simp
      simp only [List.getElem_toArray, List.getElem_cons_zero, Act.put, List.setIfInBounds_toArray, List.set_cons_zero, List.set_cons_succ]
      refine wpLate_pure (i := 1) (v := (.pointer (some ⟨g, 0, none⟩))) rfl (by decide) (by kernel_rfl) (by kernel_rfl) (by kernel_rfl) (fun _ _ _ h => h) (Or.inl ⟨by rfl, ?_⟩) (fun _ => by assumption) ?_
      · intro w' _
        go_simp
      simp only [List.getElem_toArray, List.getElem_cons_succ, List.getElem_cons_zero, Act.put, List.setIfInBounds_toArray, List.set_cons_zero, List.set_cons_succ]
      refine wpLate_pure (i := 2) (v := (.pointer (some ⟨g, 0, none⟩))) rfl (by decide) (by kernel_rfl) (by kernel_rfl) (by kernel_rfl) (fun _ _ _ h => h) (Or.inl ⟨by rfl, ?_⟩) (fun _ => by assumption) ?_
      · intro w' _
        go_simp
      simp only [List.getElem_toArray, List.getElem_cons_succ, List.getElem_cons_zero, Act.put, List.setIfInBounds_toArray, List.set_cons_zero, List.set_cons_succ]
      refine wpLate_take (i := 3) (v := (.map (some mb))) rfl (by kernel_rfl) (by kernel_rfl) (by kernel_rfl) (by kernel_rfl) (by kernel_rfl) (fun _ _ _ h => h) (Or.inl ⟨by rfl, ?_⟩) (by assumption) ?_
      · intro w' hSw
        have y0 := hSw.1
        go_simp
      simp only [List.getElem_toArray, List.getElem_cons_succ, List.getElem_cons_zero, Act.put, List.setIfInBounds_toArray, List.set_cons_zero, List.set_cons_succ]
      refine wpLate_pure (i := 4) (v := (.slice (some ⟨b, o, none⟩) n ca)) rfl (by decide) (by kernel_rfl) (by kernel_rfl) (by kernel_rfl) (fun _ _ _ h => h) (Or.inl ⟨by rfl, ?_⟩) (fun _ => by assumption) ?_
      · intro w' _
        go_simp
      simp only [List.getElem_toArray, List.getElem_cons_succ, List.getElem_cons_zero, Act.put, List.setIfInBounds_toArray, List.set_cons_zero, List.set_cons_succ]
      refine wpLate_pure (i := 5) (v := (.pointer (some ⟨b, o, none⟩))) rfl (by decide) (by kernel_rfl) (by kernel_rfl) (by kernel_rfl) (fun _ _ _ h => h) (Or.inl ⟨by rfl, ?_⟩) (fun _ => by assumption) ?_
      · intro w' _
        go_simp
      simp only [List.getElem_toArray, List.getElem_cons_succ, List.getElem_cons_zero, Act.put, List.setIfInBounds_toArray, List.set_cons_zero, List.set_cons_succ]
      refine wpLate_take (i := 6) (v := (.int .i64 a)) rfl (by kernel_rfl) (by kernel_rfl) (by kernel_rfl) (by kernel_rfl) (by kernel_rfl) (fun _ _ _ h => h) (Or.inl ⟨by rfl, ?_⟩) (by assumption) ?_
      · intro w' hSw
        have y0 := hSw.2
        go_simp
      simp only [List.getElem_toArray, List.getElem_cons_succ, List.getElem_cons_zero, Act.put, List.setIfInBounds_toArray, List.set_cons_zero, List.set_cons_succ]
      refine wpLate_ready (rs := [7]) (by kernel_rfl) (by simp) ?_
      refine wpLate_cons rfl (fun Kc hKc => ?_) wpLate_nil
      simp only [List.getElem_toArray, List.getElem_cons_succ, List.getElem_cons_zero]
      rw [if_pos (by rfl)]
      obtain ⟨w4, hrun, M4, ht4⟩ := MD.del a hwfa 0
      refine wp_del _ _ rfl mb a rfl rfl w4 (by exact hrun) ?_
      refine hKc.out _ _ (fun hne _ => absurd rfl hne) ?_
      clear hKc Kc
      try simp only [Act.put]
      refine wpLate_done (by kernel_rfl) ?_ _
      go_wp2_with fail
      go_end0
      have T4 : TI wd3 B tb S1 NB cnt := HT3.out.same (fun _ g _ => hkd3.out g) (fun _ g _ => hkd3.out g)
      have T5 := T4.delNode Hm3.out HV0.out HC0.out M4 hn3 ht4
      have hG := ht4.grown
      have hne5 : p ≠ p ++ [a] := fun e => by have := congrArg List.length e; simp at this
      have OX : Own S1 wc { S1 with nd := upd S1.nd (p ++ [a]) none, mp := upd S1.mp (p ++ [a]) none } w4 0 := Own.of (fun q x hq => by
          replace hq : upd S1.nd (p ++ [a]) none q = some x := hq
          by_cases e : q = p ++ [a]
          · rw [e, upd_same] at hq; cases hq
          · rw [upd_other _ _ e] at hq; exact Or.inl hq) (fun q x hq => by
          replace hq : upd S1.mp (p ++ [a]) none q = some x := hq
          by_cases e : q = p ++ [a]
          · rw [e, upd_same] at hq; cases hq
          · rw [upd_other _ _ e] at hq; exact Or.inl hq) (by have := hG.size; rw [hzd3.out] at this; exact this) (fun x hx hn => by
          rw [hG.block x (by rw [hzd3.out]; exact hx) (fun e => hn (Or.inr ⟨p, by rw [Hm3.out]; exact e.symm⟩)), hkd3.out x])
      refine ⟨rfl, _, ⟨T5, HK.out.vl, ?_, fun q x hq => ?_, fun q x hq => ?_, HK.out.own.trans OX (Nat.le_refl _), (HK.out.bel.trans (B3d.mono ?_)).grown hG ?_ (fun k hk => ?_)⟩⟩
      · show upd S1.nd (p ++ [a]) none p = some g
        rw [upd_other _ _ hne5]; exact Hp3.out
      · replace hq : upd S1.nd (p ++ [a]) none q = some x := hq
        by_cases e : q = p ++ [a]
        · rw [e, upd_same] at hq; cases hq
        · rw [upd_other _ _ e] at hq; exact HK.out.snd q x hq
      · replace hq : upd S1.mp (p ++ [a]) none q = some x := hq
        by_cases e : q = p ++ [a]
        · rw [e, upd_same] at hq; cases hq
        · rw [upd_other _ _ e] at hq; exact HK.out.smp q x hq
      · have := HT3.out.base _ _ Hp3.out; have := HT3.out.lt Hp3.out; omega
      · have := HT3.out.base _ _ Hp3.out; have := HT3.out.lt Hp3.out; rw [hzd3.out]; omega
      · injection hk with hk; rw [← hk]; exact HT3.out.mbase _ _ Hm3.out
theorem TI.unval {w w' : World} {B tb NB cnt : Nat} {S : TS} (h : TI w B tb S NB cnt) {p : List Int} {g : Nat} (hp : S.nd p = some g) (ho : ∀ x, x ≠ g → w'.heap[x]? = w.heap[x]?)
    (k0 : w'.cell? ⟨g, 0, none⟩ = w.cell? ⟨g, 0, none⟩) (k3 : w'.cell? ⟨g, 3, none⟩ = w.cell? ⟨g, 3, none⟩) (k1 : w'.cell? ⟨g, 1, none⟩ = some (.bool false)) (k2 : w'.cell? ⟨g, 2, none⟩ = some (.int .i64 0)) (kf : ∀ j, w'.frozen? ⟨g, j, none⟩ = w.frozen? ⟨g, j, none⟩) :
    TI w' B tb { S with vl := upd S.vl p none } NB cnt := by
  have ne : ∀ q g', S.nd q = some g' → q ≠ p → g' ≠ g := fun q g' hq e he => e (h.inj q p g (he ▸ hq) hp)
  have eqg : ∀ g', S.nd p = some g' → g' = g := fun g' hq => by rw [hp] at hq; injection hq with hq; exact hq.symm
  refine ⟨h.root, h.base, h.mbase, ?_, ?_, ?_, ?_, ?_, h.m0, h.inj, h.minj, h.mnd, ?_, ?_, ?_⟩
  · intro q g' hq
    by_cases e : q = p
    · subst e; obtain rfl := eqg g' hq; rw [k0]; exact h.c0 q g' hq
    · rw [World.cell?_of_block (w := w) (a := ⟨g', 0, none⟩) (ho g' (ne q g' hq e))]; exact h.c0 q g' hq
  · intro q g' hq
    show _ = some (Value.bool (upd S.vl p none q).isSome)
    by_cases e : q = p
    · subst e; obtain rfl := eqg g' hq; rw [k1, upd_same]; rfl
    · rw [World.cell?_of_block (w := w) (a := ⟨g', 1, none⟩) (ho g' (ne q g' hq e)), upd_other _ _ e]; exact h.c1 q g' hq
  · intro q g' hq
    show _ = some (Value.int .i64 ((upd S.vl p none q).getD 0))
    by_cases e : q = p
    · subst e; obtain rfl := eqg g' hq; rw [k2, upd_same]; rfl
    · rw [World.cell?_of_block (w := w) (a := ⟨g', 2, none⟩) (ho g' (ne q g' hq e)), upd_other _ _ e]; exact h.c2 q g' hq
  · intro q g' hq j hj
    by_cases e : q = p
    · subst e; obtain rfl := eqg g' hq; rw [kf]; exact h.fr q g' hq j hj
    · rw [World.frozen?_of_block (w := w) (a := ⟨g', j, none⟩) (ho g' (ne q g' hq e))]; exact h.fr q g' hq j hj
  · intro q b hb
    obtain ⟨n, hl, hx⟩ := h.m1 q b hb
    exact ⟨n, hl, hx.keep (ho b (h.mne hp hb))⟩
  · intro q hq
    have hq2 : upd S.vl p none q ≠ none := hq
    by_cases e : q = p
    · rw [e, upd_same] at hq2; exact absurd rfl hq2
    · rw [upd_other _ _ e] at hq2; exact h.vnd q hq2
  · by_cases e : tb = g
    · subst e; rw [k3]; exact h.cc
    · rw [World.cell?_of_block (w := w) (a := ⟨tb, 3, none⟩) (ho tb e)]; exact h.cc
  · by_cases e : tb = g
    · subst e; rw [kf]; exact h.cf
    · rw [World.frozen?_of_block (w := w) (a := ⟨tb, 3, none⟩) (ho tb e)]; exact h.cf
set_option maxRecDepth 100000 in
theorem drop_none (ao : Option Addr) (n ca : Nat) (A : List Int) (w : World) (B tb NB cnt : Nat) (S : TS) (vl : List Int → Option Int) (h : TA w B tb S vl NB cnt) (hA : Tk w ao n A) (hx : vl A = none) :
   Calls Try.prog 11 #[.pointer (some ⟨tb, 0, none⟩), .slice ao n ca] w fun e w' => e = .returned (.bool false) ∧ w' = w := by
  obtain ⟨hT, rfl, hD, hL, hC⟩ := h
  have F := find_any ao n ca A w B tb NB cnt S hT hA
  rcases hq : S.nd A with _ | g
  · rw [hq] at F
    unfold ptr at F
    clear hT hA hq hx hL
    go_enter Try.func11, Try.ntmps11
    go_wp2_with (go_at_call 23; refine F.mono ?_; rintro e w5 ⟨rfl, hw⟩; replace hw := hw.symm; subst hw)
    go_ret
    exact ⟨rfl, rfl⟩
  · have c1 := hT.c1 A g hq
    rw [hx] at c1
    simp only [Option.isSome_none] at c1
    rw [hq] at F
    unfold ptr at F
    clear hT hA hq hx hL
    go_enter Try.func11, Try.ntmps11
    go_wp2_with (go_at_call 23; refine F.mono ?_; rintro e w5 ⟨rfl, hw⟩; replace hw := hw.symm; subst hw)
    go_ret
    exact ⟨rfl, rfl⟩
set_option maxRecDepth 100000 in
set_option maxHeartbeats 2000000 in
theorem drop_some (ao : Option Addr) (n ca : Nat) (A : List Int) (x : Int) (w : World) (B tb NB cnt : Nat) (S : TS) (vl : List Int → Option Int) (h : TA w B tb S vl NB cnt) (hA : Tk w ao n A) (hf : n ≤ ca) (hm : ca ≤ 9223372036854775807) (hne : ∀ b o, ao = some ⟨b, o, none⟩ → ¬ S.has b) (hN : NB < 1000000000) (hx : vl A = some x) :
   Calls Try.prog 11 #[.pointer (some ⟨tb, 0, none⟩), .slice ao n ca] w fun e w' => e = .returned (.bool true) ∧ (∃ S', TA w' B tb S' (upd vl A none) NB (cnt - 1) ∧ Own S w S' w' 128) ∧ Below B w w' := by
  obtain ⟨hT, rfl, hD, hL, hC⟩ := h
  have F := find_any ao n ca A w B tb NB cnt S hT hA
  obtain ⟨g, hq⟩ : ∃ g, S.nd A = some g := Option.ne_none_iff_exists'.1 (hT.vnd A (by rw [hx]; simp))
  have c1 := hT.c1 A g hq
  have c2 := hT.c2 A g hq
  have f1 := hT.fr A g hq 1 (by decide)
  have f2 := hT.fr A g hq 2 (by decide)
  rw [hx] at c1 c2
  simp only [Option.isSome_some, Option.getD_some] at c1 c2
  rw [hq] at F
  unfold ptr at F
  have hc1 : 1 ≤ cnt := by
    obtain ⟨L, l1, l2, l3⟩ := hL
    have := (l3 A).2 (by rw [hx]; simp)
    have := List.length_pos_of_mem this
    omega
  obtain ⟨w1, hw1⟩ : ∃ w1, w1 = (w.setCell ⟨g, 1, none⟩ (.bool false)).setCell ⟨g, 2, none⟩ (.int .i64 0) := ⟨_, rfl⟩
  have o1 : ∀ o, o ≠ 1 → o ≠ 2 → w1.cell? ⟨g, o, none⟩ = w.cell? ⟨g, o, none⟩ := fun o h1 h2 => by
    rw [hw1, World.cell?_setCell_other _ _ _ _ (by intro e; injection e with e1 e2; exact h2 e2.symm), World.cell?_setCell_other _ _ _ _ (by intro e; injection e with e1 e2; exact h1 e2.symm)]
  have hb : ∀ y, y ≠ g → w1.heap[y]? = w.heap[y]? := fun y hy => by rw [hw1, Below.heap_setCell _ _ _ y hy, Below.heap_setCell _ _ _ y hy]
  have k1 : w1.cell? ⟨g, 1, none⟩ = some (.bool false) := by
    rw [hw1, World.cell?_setCell_other _ _ _ _ (by simp)]; exact World.cell?_setCell_same _ _ _ c1
  have k2 : w1.cell? ⟨g, 2, none⟩ = some (.int .i64 0) := by
    rw [hw1]; exact World.cell?_setCell_same _ _ _ (by rw [World.cell?_setCell_other _ _ _ _ (by simp)]; exact c2)
  have T1 := hT.unval hq hb (o1 0 (by decide) (by decide)) (o1 3 (by decide) (by decide)) k1 k2 (fun j => by rw [hw1, World.frozen?_setCell, World.frozen?_setCell])
  have T2 := T1.count (cnt - 1)
  have cc := T1.cc
  have cf := T1.cf
  have hgn : ∀ b, S.has b ↔ ({ S with vl := upd S.vl A none } : TS).has b := fun b => Iff.rfl
  have OA : Own S w { S with vl := upd S.vl A none } (w1.setCell ⟨tb, 3, none⟩ (.int .i64 ((cnt - 1 : Nat) : Int))) 0 := Own.of (fun q x hq => Or.inl hq) (fun q x hq => Or.inl hq) (by rw [hw1]; simp) (fun x hx hn => by rw [Below.heap_setCell _ _ _ x (fun e => hn (Or.inl ⟨_, (show x = tb from e) ▸ hT.root⟩)), hb x (fun e => hn (Or.inl ⟨_, e ▸ hq⟩))])
  have BA : Below B w (w1.setCell ⟨tb, 3, none⟩ (.int .i64 ((cnt - 1 : Nat) : Int))) := by
    rw [hw1]; exact (((Below.refl B w).setCell (hT.base _ _ hq) _).setCell (hT.base _ _ hq) _).setCell (hT.base _ _ hT.root) _
  have hA2 : Tk (w1.setCell ⟨tb, 3, none⟩ (.int .i64 ((cnt - 1 : Nat) : Int))) ao n A := hA.keep (fun b o e hn => by
    obtain ⟨b', o', e', hc⟩ := hA.cells hn
    have hlt : b < w.heap.size := by rw [e'] at e; injection e with e; injection e with e1 _ _; rw [← e1]; exact cell_lt (hc 0 hn)
    exact OA.kept b hlt (hne b o e))
  have CP := prune_any B tb NB (cnt - 1) hN A [] tb ao n ca _ _ T2 hT.root (by rw [List.nil_append]; show S.nd A ≠ none; rw [hq]; simp) hA2 hf hm (fun b o e h => hne b o e ((hgn b).2 h))
  have HE : Hid (∀ w' S', Pru (w1.setCell ⟨tb, 3, none⟩ (.int .i64 ((cnt - 1 : Nat) : Int))) w' B tb NB (cnt - 1) { S with vl := upd S.vl A none } S' [] tb → (∃ S', TA w' B tb S' (upd S.vl A none) NB (cnt - 1) ∧ Own S w S' w' 128) ∧ Below B w w') := fun w' S' PP => by
    refine ⟨⟨S', ⟨PP.ti, PP.vl, fun q hq => ?_, ?_, by omega⟩, (OA.trans PP.own (Nat.le_refl _)).wider (by omega)⟩, BA.trans PP.bel⟩
    · obtain ⟨y, hy⟩ := Option.ne_none_iff_exists'.1 hq
      exact hD q (by have := PP.snd q y hy; show S.nd q ≠ none; rw [show S.nd q = some y from this]; simp)
    · obtain ⟨L, l1, l2, l3⟩ := hL
      refine ⟨L.erase A, l1.erase A, ?_, fun q => ?_⟩
      · rw [List.length_erase_of_mem ((l3 A).2 (by rw [hx]; simp)), l2]
      · rw [l1.mem_erase_iff, l3 q]
        by_cases e : q = A
        · subst e; rw [upd_same]; simp
        · rw [upd_other _ _ e]; simp [e]
  have ec : ((cnt - 1 : Nat) : Int) = (cnt : Int) - 1 := by omega
  rw [ec] at CP HE
  rw [hw1] at cc cf CP HE
  have hcm : cnt ≤ 1000 := hC
  clear hT hA hq hx hL T1 T2 OA BA hA2 hgn k1 k2 o1 hb hw1 hne hD hC ec
  go_enter Try.func11, Try.ntmps11
  go_wp2_with (first
    | (go_at_call 23; refine F.mono ?_; rintro e w5 ⟨rfl, hw⟩; replace hw := hw.symm; subst hw)
    | (go_at_call 25; refine CP.mono ?_; clear CP; rintro e w6 ⟨rfl, S6, PP⟩; have hR := HE.out w6 S6 PP; clear PP HE))
  go_ret
  exact ⟨rfl, hR⟩
end Go.Proofs.Ytomfkdaaimhmkaa
