/- What tells whether a Holding is over; the map without those that are. -/
import Derived.Test.YtacmphckmjangaaLsMap
import Derived.Shelf.Abstract
namespace Go.Proofs.Ytacmphckmjangaa
open Go.ChangeShapes Go.WideShapes Go.ChangeAt Go.RowKit Go.Maps
theorem lover_any (now : Int) (w : World) : Calls Try.prog 22 #[.int .i64 now] w fun e w' => e = .returned (.func (.func 25) #[] #[.pointer (some ⟨w.heap.size, 0, none⟩)]) ∧ w' = w.alloc (.cells #[.int .i64 now] 3) := by
  go_enter Try.func22, Try.ntmps22
  go_wp2
  go_ret
  exact ⟨rfl, rfl⟩
theorem loverf_any (x now : Int) (h : Hg) (c : Nat) (w : World) (hc : w.cell? ⟨c, 0, none⟩ = some (.int .i64 now)) : Calls Try.prog 25 #[.int .i64 x, h.val, .pointer (some ⟨c, 0, none⟩)] w fun e w' => e = .returned (.bool (decide (h.unt ≤ now))) ∧ w' = w.alloc (.cells #[.int .i64 h.hol, .int .i64 h.epo, .int .i64 h.unt] 51) := by
  obtain ⟨ho, ep, un⟩ := h
  have hl := World.block_lt_of_cell? w _ hc
  have hc2 := World.cell?_alloc_past (w := w) (.cells #[.int .i64 ho, .int .i64 ep, .int .i64 un] 51) c 0 hl
  rw [hc] at hc2
  unfold Hg.val
  by_cases h : un ≤ now
  · have d := decide_eq_true h
    go_enter Try.func25, Try.ntmps25
    go_wp2
    go_ret
    exact ⟨by simp, rfl⟩
  · have d := decide_eq_false h
    go_enter Try.func25, Try.ntmps25
    go_wp2
    go_ret
    exact ⟨by simp, rfl⟩
theorem Hg.val_inj {a b : Hg} (h : a.val = b.val) : a = b := by
  cases a; cases b
  simp only [Hg.val, Value.agg.injEq, Array.mk.injEq, List.cons.injEq, Value.int.injEq, true_and, and_true] at h
  obtain ⟨rfl, rfl, rfl⟩ := h
  rfl
open Classical in
/-- Is an element over? -/
noncomputable def pdO (now : Int) (_ : Lit) (d : DataW Value) : Bool := decide (∃ h : Hg, d = .held h.val ∧ h.unt ≤ now)
theorem pdO_val (now : Int) (k : Lit) (h : Hg) : pdO now k (.held h.val) = decide (h.unt ≤ now) := by
  unfold pdO
  by_cases e : h.unt ≤ now
  · rw [decide_eq_true e]
    simp only [decide_eq_true_eq]
    exact ⟨h, rfl, e⟩
  · rw [decide_eq_false e]
    simp only [decide_eq_false_iff_not]
    rintro ⟨h', e1, e2⟩
    injection e1 with e1
    rw [Hg.val_inj e1] at e
    exact e e2
/-- The entries that aren't over. -/
def lastM (now : Int) (L : List (Int × Hg)) : List (Int × Hg) := L.filter (fun p => decide (now < p.2.unt))
theorem last_perm {es : List (Lit × DataW Value)} {L : List (Int × Hg)} (now : Int) (hp : es.Perm (L.map (entM Hg.val))) : (es.filter fun p => !pdO now p.1 p.2).Perm ((lastM now L).map (entM Hg.val)) := by
  have h1 := hp.filter (fun p => !pdO now p.1 p.2)
  refine h1.trans ?_
  unfold lastM
  rw [List.filter_map]
  have e : ((fun p : Lit × DataW Value => !pdO now p.1 p.2) ∘ entM Hg.val) = fun p : Int × Hg => decide (now < p.2.unt) := by
    funext p
    show (!pdO now _ (.held p.2.val)) = _
    rw [pdO_val]
    by_cases e : p.2.unt ≤ now
    · rw [decide_eq_true e, decide_eq_false (by omega)]; rfl
    · rw [decide_eq_false e, decide_eq_true (by omega)]; rfl
  rw [e]
set_option maxHeartbeats 4000000 in
set_option maxRecDepth 100000 in
theorem ldelf_any (b c : Nat) (now : Int) (L : List (Int × Hg)) (w : World) (hm : MapAt Hg.val w b L) (hc : w.cell? ⟨c, 0, none⟩ = some (.int .i64 now)) :
    Calls Try.prog 24 #[.map (some b), .func (.func 25) #[] #[.pointer (some ⟨c, 0, none⟩)]] w fun e w' => e = .returned (.tuple #[]) ∧ MapAt Hg.val w' b (lastM now L) ∧ But b w w' := by
  have hbl := hm.lt
  have hcl := World.block_lt_of_cell? w _ hc
  have hbc : c ≠ b := by
    rintro rfl
    obtain ⟨es, ⟨a, clock, h1, _⟩, _⟩ := hm
    simp [World.cell?, h1] at hc
  obtain ⟨es0, hown, hp⟩ := hm
  obtain ⟨es', e, hap, hkeys⟩ := hown.entries lawI
  injection e with e
  subst e
  have eg : ∀ args w, (callFunc 25 args).run Try.prog w = .ok (.enter 25 args) w := enters_of Try.func25 (by kernel_rfl) rfl
  go_enter Try.func24, Try.ntmps24
  go_wp2_with (first
    | (at_range; refine wpList_range_own _ rfl _ 24 rfl 3 51 lawI Try.underlying24 (rdE Hg.val) b L.length _ rfl hown ?_; intro w0 hrg0 hg0 hs0)
    | go_in)
  (try go_frame)
  go_loopw [8] (fun _ wr => ∃ (left : Lit → Bool) (cnt : Nat), wr.ranges Try.prog 3 (rdE Hg.val) b w.heap.size L.length (Fk (pdO now) es0 left) left cnt ∧ But b w wr)
    (fun _ wr => wr.rangeLeft b w.heap.size)
  case atStart => exact ⟨_, _, by rw [Fk_start hkeys]; exact hrg0, (But.refl b w).grown hg0 (fun j hj => by cases hj)⟩
  case round =>
    obtain ⟨left, cnt, hrg, hgw⟩ := hrel
    have hsw := hgw.size
    go_wp2_with (first
      | (at_next; refine wpList_next_ranges _ rfl _ rfl 3 lawI (rdE Hg.val) (Value.int .i64) Hg.val (fun key kl hkey => by obtain ⟨x, rfl, _⟩ := Maps.keyOf_int_inv Try.underlying3 hkey; exact ⟨x, rfl⟩) (fun v y hv => by obtain ⟨c, rfl, _⟩ := rdE_inv _ hv; exact ⟨c, rfl⟩) b w.heap.size L.length _ _ _ rfl hrg ?_ ?_)
      | go_in)
    · intro _ hl0
      go_wp2
      go_end0
      refine ⟨rfl, ?_, hgw⟩
      have ho := hrg.owns
      rw [Fk_end hl0] at ho
      exact mapAt_of ho (last_perm now hp)
    · intro x c0 kl yd yp w1 cnt1 hkey hlx hv hat hrg1 hlt hg1 hs1 hen
      obtain ⟨hol, epo, unt⟩ := c0
      have hgw1 := hgw.grown hg1 (fun j hj => Or.inl (by cases hj; exact Nat.le_refl _))
      obtain ⟨cc, hcc, hyy⟩ := rdE_inv _ hv
      rw [Prod.mk.injEq] at hyy
      obtain ⟨rfl, rfl⟩ := hyy
      obtain ⟨x', hx', rfl, hwx⟩ := Maps.keyOf_int_inv Try.underlying3 hkey
      have hxx : x = x' := by injection hx'
      subst hxx
      rw [← hcc] at hat
      have XA := blk_new w1 51 #[.int .i64 0, .int .i64 0, .int .i64 0]
      have ga := World.grownBy_alloc w1 (.cells #[.int .i64 0, .int .i64 0, .int .i64 0] 51) none
      have hwa : (w1.alloc (.cells #[.int .i64 0, .int .i64 0, .int .i64 0] 51)).heap.size = w1.heap.size + 1 := by simp
      generalize hwA : w1.alloc (.cells #[.int .i64 0, .int .i64 0, .int .i64 0] 51) = wA at *
      have XB := XA.row #[.int .i64 hol, .int .i64 epo, .int .i64 unt]
      have gb := grown_row wA w1.heap.size #[.int .i64 hol, .int .i64 epo, .int .i64 unt]
      have hwb : (wA.setRow w1.heap.size #[.int .i64 hol, .int .i64 epo, .int .i64 unt]).heap.size = w1.heap.size + 1 := by rw [setRow_size, hwa]
      generalize hwB : wA.setRow w1.heap.size #[.int .i64 hol, .int .i64 epo, .int .i64 unt] = wB at *
      have s1 : w.heap.size ≤ w1.heap.size := by omega
      have hrgB := (hrg1.kept ga (by simp) (by simp)).kept gb (fun e => by have := Option.some.inj e; omega) (fun e => by have := Option.some.inj e; have := hrg1.lt; omega)
      have hgwB := (hgw1.grown ga (fun j hj => by cases hj)).grown gb (fun j hj => Or.inl (by cases hj; omega))
      have hcB : wB.cell? ⟨c, 0, none⟩ = some (.int .i64 now) := by rw [World.cell?_of_block (w := w) (a := ⟨c, 0, none⟩) (hgwB.block c hcl hbc)]; exact hc
      have CF := loverf_any x now ⟨hol, epo, unt⟩ c wB hcB
      have ge := World.grownBy_alloc wB (.cells #[.int .i64 hol, .int .i64 epo, .int .i64 unt] 51) none
      have hrgE := hrgB.kept ge (by simp) (by simp)
      have hgwE := hgwB.grown ge (fun j hj => by cases hj)
      have hall : Array.all (#[.int .i64 hol, .int .i64 epo, .int .i64 unt] : Array Value) (fun v => v.oneCell') = true := by simp [Value.oneCell']
      have hpd := pdO_val now (.int .i64 x) ⟨hol, epo, unt⟩
      clear hs1 hwa hwb
      have hat' : ∀ zd, (Fk (pdO now) es0 left).atKey (.int .i64 x) zd = .held (Hg.val ⟨hol, epo, unt⟩) := hat
      unfold Hg.val at hen CF
      simp only at CF hpd
      by_cases hu : unt ≤ now
      · rw [decide_eq_true hu] at CF hpd
        unfold Hg.val
        go_wp2_with (first
          | (refine wpList_store_row rfl 51 _ _ rfl w1.heap.size #[.int .i64 hol, .int .i64 epo, .int .i64 unt] rfl rfl 51 _ XA Try.infoHg rfl hall ?_; rw [hwB])
          | (refine wpList_load_row rfl 51 _ rfl w1.heap.size rfl 51 _ (0, 0) _ XB Try.underlying51 rfl Try.infoHg ?_)
          | (go_at_fn 25; refine CF.mono ?_; rintro e w2 ⟨rfl, rfl⟩)
          | (at_delete; refine wpList_delete_ranges _ rfl _ _ 24 3 rfl 51 lawI Try.underlying24 (rdE Hg.val) b w.heap.size L.length _ _ _ rfl hrgE _ _ rfl hkey ?_; intro w3 cnt3 hrg3 hle hturn; go_frame)
          | go_in)
        rw [strike_twice] at hrg3
        go_roundw
        case rel => exact ⟨_, cnt3, by rw [← Fk_struck hap (lawI.key hkey) hlx hpd hat']; exact hrg3, hgwE.grown hturn.grown (fun j hj => Or.inr (Option.some.inj hj).symm)⟩
        case measure => rw [hrg3.left_eq, hrg.left_eq]; omega
      · rw [decide_eq_false hu] at CF hpd
        unfold Hg.val
        go_wp2_with (first
          | (refine wpList_store_row rfl 51 _ _ rfl w1.heap.size #[.int .i64 hol, .int .i64 epo, .int .i64 unt] rfl rfl 51 _ XA Try.infoHg rfl hall ?_; rw [hwB])
          | (refine wpList_load_row rfl 51 _ rfl w1.heap.size rfl 51 _ (0, 0) _ XB Try.underlying51 rfl Try.infoHg ?_)
          | (go_at_fn 25; refine CF.mono ?_; rintro e w2 ⟨rfl, rfl⟩)
          | go_in)
        go_roundw
        case rel => exact ⟨_, cnt1, by rw [← Fk_stays hap (lawI.key hkey) hlx hpd hat']; exact hrgE, hgwE⟩
        case measure => rw [hrgE.left_eq, hrg.left_eq]; exact hlt
end Go.Proofs.Ytacmphckmjangaa
