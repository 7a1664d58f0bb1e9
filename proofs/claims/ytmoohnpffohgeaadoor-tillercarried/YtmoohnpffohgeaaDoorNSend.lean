/- A net's small calls, and Send. -/
import Derived.Test.YtmoohnpffohgeaaDoorNApp
import Derived.Test.YtmoohnpffohgeaaDoorShelf
namespace Go.Proofs.YtmoohnpffohgeaaDoor
open Go.ChangeShapes Go.WideShapes Go.ChangeAt Go.RowKit
theorem has_yes (b j : Nat) (L : List Pc) (lost : Int) (w : World) (h : NetAt w b L lost) (hj : j < L.length) :
   Calls Tryd.prog 22 #[.pointer (some ⟨b, 0, none⟩), .int .i64 (j : Int)] w fun e w' => e = .returned (.bool true) ∧ w' = w := by
  obtain ⟨ao, c, h1, h2, h3⟩ := h.parts
  have c0 := h1.cell 0 (v := .slice ao L.length c) rfl
  clear h h1 h2 h3
  generalize L.length = n at *
  go_enter Tryd.func22, Tryd.ntmps22
  go_wp2
  go_ret
  exact ⟨rfl, rfl⟩
theorem has_no (b : Nat) (i : Int) (L : List Pc) (lost : Int) (w : World) (h : NetAt w b L lost) (hi : i < 0 ∨ (L.length : Int) ≤ i) :
   Calls Tryd.prog 22 #[.pointer (some ⟨b, 0, none⟩), .int .i64 i] w fun e w' => e = .returned (.bool false) ∧ w' = w := by
  obtain ⟨ao, c, h1, h2, h3⟩ := h.parts
  have c0 := h1.cell 0 (v := .slice ao L.length c) rfl
  clear h h1 h2 h3
  generalize L.length = n at *
  by_cases h0 : i < 0
  · clear hi
    have h0' : decide (0 ≤ i) = false := decide_eq_false (by omega)
    go_enter Tryd.func22, Tryd.ntmps22
    go_wp2
    go_ret
    exact ⟨rfl, rfl⟩
  · have h1 : (n : Int) ≤ i := by omega
    have h2 : 0 ≤ i := by omega
    clear hi h0
    go_enter Tryd.func22, Tryd.ntmps22
    go_wp2
    go_ret
    exact ⟨by simp; omega, rfl⟩
theorem len_any (b : Nat) (L : List Pc) (lost : Int) (w : World) (h : NetAt w b L lost) :
   Calls Tryd.prog 14 #[.pointer (some ⟨b, 0, none⟩)] w fun e w' => e = .returned (.int .i64 (L.length : Int)) ∧ w' = w := by
  obtain ⟨ao, c, h1, h2, h3⟩ := h.parts
  have c0 := h1.cell 0 (v := .slice ao L.length c) rfl
  clear h h1 h2 h3
  generalize L.length = n at *
  go_enter Tryd.func14, Tryd.ntmps14
  go_wp2
  go_ret
  exact ⟨rfl, rfl⟩
theorem send_arg (b : Nat) (to : Int) (s : ByteArray) (w : World) (hi : to < 0 ∨ 8 ≤ to) :
   Calls Tryd.prog 6 #[.pointer (some ⟨b, 0, none⟩), .int .i64 to, .string s] w fun e w' => e = .returned (.int .i64 1) ∧ w' = w := by
  by_cases h0 : to < 0
  · clear hi
    go_enter Tryd.func6, Tryd.ntmps6
    go_wp2
    go_ret
    exact ⟨rfl, rfl⟩
  · have h1 : 8 ≤ to := by omega
    have h2 : 0 ≤ to := by omega
    have h3 : decide (to < 0) = false := decide_eq_false h0
    clear hi h0
    go_enter Tryd.func6, Tryd.ntmps6
    go_wp2
    go_ret
    exact ⟨rfl, rfl⟩
theorem send_big (b : Nat) (to : Int) (s : ByteArray) (w : World) (h1 : 0 ≤ to) (h2 : to < 8) (hs : 65536 < s.size) :
   Calls Tryd.prog 6 #[.pointer (some ⟨b, 0, none⟩), .int .i64 to, .string s] w fun e w' => e = .returned (.int .i64 2) ∧ w' = w := by
  have h3 : decide (to < 0) = false := decide_eq_false (by omega)
  go_enter Tryd.func6, Tryd.ntmps6
  go_wp2
  go_ret
  exact ⟨rfl, rfl⟩
theorem NetAt.set_lost {w : World} {b : Nat} {L : List Pc} {lost : Int} (h : NetAt w b L lost) (n : Int) : NetAt (w.setCell ⟨b, 1, none⟩ (.int .i64 n)) b L n := by
  obtain ⟨ao, c, h1, h2, h3⟩ := h.parts
  refine ⟨_, h1.set 1 _, h2.other (fun e => ?_) _⟩
  have := (h2.lt _ e).1
  simp at this
  omega
theorem Turns.set_lost {w w' : World} {b : Nat} {L : List Pc} {lost : Int} (t : Turns b w w') (h : NetAt w' b L lost) (n : Int) : Turns b w (w'.setCell ⟨b, 1, none⟩ (.int .i64 n)) := by
  obtain ⟨ao, c, h1, h2, h3⟩ := h.parts
  refine ⟨t.below.setCell (Nat.le_refl _) _, fun k hk h4 h5 => ?_, ?_⟩
  · rw [Below.heap_setCell _ _ _ _ h4]; exact t.block k hk h4 h5
  · have e : rowBlk (w'.setCell ⟨b, 1, none⟩ (.int .i64 n)) b = rowBlk w' b := by rw [h3]; exact rowBlk_of ((h1.set 1 _).cell 0 rfl)
    rw [e]; exact t.row
theorem send_full (b : Nat) (to : Int) (s : ByteArray) (L : List Pc) (lost : Int) (w : World) (h : NetAt w b L lost) (h1 : 0 ≤ to) (h2 : to < 8) (hs : s.size ≤ 65536) (hl : 256 ≤ L.length) (hq : 0 ≤ lost ∧ lost < 1000000) :
   Calls Tryd.prog 6 #[.pointer (some ⟨b, 0, none⟩), .int .i64 to, .string s] w fun e w' => e = .returned (.int .i64 10) ∧ NetAt w' b L (lost + 1) ∧ Turns b w w' := by
  have h3 : decide (to < 0) = false := decide_eq_false (by omega)
  obtain ⟨ao, c, k1, k2, k3⟩ := h.parts
  have c0 := k1.cell 0 (v := .slice ao L.length c) rfl
  have c1 := k1.cell 1 (v := .int .i64 lost) rfl
  have f1 := k1.frozen 1
  have HH : Hid _ := h
  have hl' : (256 : Int) ≤ (L.length : Int) := by omega
  clear k1 k2 k3 h hl
  generalize hn : L.length = n at *
  go_enter Tryd.func6, Tryd.ntmps6
  go_wp2
  go_ret
  exact ⟨rfl, HH.out.set_lost _, (Turns.of_below (Below.refl _ _) HH.out.lt).set_lost HH.out _⟩
theorem Tryd.infoParcel : (Tryd.prog.info? 48).map (fun i => (i.zero, i.size, i.bytes)) = some (some (.agg #[.int .i64 0, .string ⟨#[]⟩, .bool false]), 3, 32) := by kernel_rfl
/-- append of one parcel onto a row of the program's own, as one step of a region that draws. -/
theorem step_append_pc {ops : Array Oper} {o : Oper} {a : Act} {w : World} {K : Act → World → Prop} {Q : Exit → Act → World → Prop} {E : Prop}
    (hg : o.guard = none) (s x : Operand) (hop : o.op = .call { callee := .builtin .append, args := #[s, x], argTypes := #[31, 31] })
    (B : Nat) (v : Value) (L : List Pc) (hs : a.eval s = v) (hown : PRow 48 w B v L)
    (bo : Nat) (p : Pc) (hx : a.eval x = .slice (some ⟨bo, 0, none⟩) 1 1) (hX : Blk w bo 48 #[.int .i64 p.to, .string p.fr, .bool p.tn]) (hlen : L.length + 1 ≤ 1048576) (hB : B ≤ w.heap.size)
    (h : ∀ g' cap' w', PRow 48 w' B (.slice (some ⟨g', 0, none⟩) (L.length + 1) cap') (L ++ [p]) → w.grownBy w' v.ownBlock → (v.ownBlock = some g' ∨ g' = w.heap.size) → K (a.put o.dst (.slice (some ⟨g', 0, none⟩) (L.length + 1) cap')) w') :
    if Region.wanted o (yielded ops a.tmps) = true then Oper.wp Tryd.prog o a w K Q else E := by
  have hw : Region.wanted o (yielded ops a.tmps) = true := by simp [Region.wanted, hg]
  rw [if_pos hw]
  obtain ⟨i0, hi, hz0, hz1, hz2⟩ := info_parts Tryd.infoParcel
  refine wp_append_own2 w s x 31 hop B 48 i0 _ 3 32 Tryd.underlying31 hi hz0 hz1 hz2 rfl (by decide) _ L.length _ hs hown ⟨bo, 0, none⟩ 1 1 [.int .i64 p.to, .string p.fr, .bool p.tn] hx rfl ?_ ?_ (by unfold maxLen; omega) (by omega) hB ?_
  · intro j u hj
    have e2 : (Addr.mk bo 0 none).add j = ⟨bo, j, none⟩ := by rw [Addr.add_lit, Nat.zero_add]
    rw [e2]
    exact hX.cell j (by simpa using hj)
  · exact flat_one [p]
  · intro v' w' hown' hgr hnil hob
    have O : PRow 48 w' B v' (L ++ [p]) := by
      unfold PRow
      rw [flat_append, List.length_append]
      exact hown'
    rcases O.cases with ⟨_, e⟩ | ⟨g', cap', cs, e, _⟩
    · simp at e
    · rw [List.length_append] at e
      subst e
      exact h g' cap' w' O hgr (hob g' rfl)
set_option maxHeartbeats 2000000 in
set_option maxRecDepth 100000 in
theorem send_ok (b : Nat) (to : Int) (s : ByteArray) (L : List Pc) (lost : Int) (w : World) (h : NetAt w b L lost) (h1 : 0 ≤ to) (h2 : to < 8) (hs : s.size ≤ 65536) (hl : L.length < 256) :
   Calls Tryd.prog 6 #[.pointer (some ⟨b, 0, none⟩), .int .i64 to, .string s] w fun e w' => e = .returned (.int .i64 0) ∧ NetAt w' b (L ++ [⟨to, s, false⟩]) lost ∧ Turns b w w' := by
  have h3 : decide (to < 0) = false := decide_eq_false (by omega)
  have CL := fun W => clone_any s W (by omega)
  obtain ⟨ao, c, k1, k2, k3⟩ := h.parts
  have hr := h.row_lt
  have hb := h.lt
  have HK : Hid (∀ W, Below w.heap.size w W → Blk W b 33 #[.slice ao L.length c, .int .i64 lost] ∧ PRow 48 W (b + 1) (.slice ao L.length c) L ∧ W.cell? ⟨b, 0, none⟩ = some (.slice ao L.length c)) := fun W hW => ⟨k1.below hW hb, k2.below hW, (k1.below hW hb).cell 0 rfl⟩
  have c0 := k1.cell 0 (v := .slice ao L.length c) rfl
  have c0' : w.drew.cell? ⟨b, 0, none⟩ = some (.slice ao L.length c) := c0
  have K3 : Hid _ := k3
  have HR : Hid _ := hr
  have hl' : (L.length : Int) < 256 := by omega
  have HL : Hid (L.length < 256) := hl
  clear k1 k2 h hr k3 hl
  have BD : Below w.heap.size w w.drew := (Below.refl _ _).drew
  generalize hn : L.length = n at *
  go_enter Tryd.func6, Tryd.ntmps6
  go_wp2_with fail
  go_region_law (first
    | (refine step_append_pc rfl (.tmp 33) (.tmp 38) rfl (b + 1) (.slice ao n c) L (by first | rfl | simp [Act.eval, Act.put]) (by exact OO) w2.heap.size ⟨to, s, false⟩ (by first | rfl | simp [Act.eval, Act.put]) (by exact RR) (by have := HL.out; omega) (by exact ss) ?_; intro g' cap' w3 O3 G3 N3; have X3 := XX.of_block (G3.block b XX.lt (fun e => by have := HR.out _ (K3.out.trans e.symm); omega)); have t0 := X3.cell 0 (v := .slice ao n c) rfl; have tf := X3.frozen 0; rw [hn])
    | (go_simp; first
      | (go_at_call 21; refine (CL _).mono ?_; rintro e w2 ⟨rfl, B2⟩; replace B2 : Below w.heap.size w w2 := BD.trans B2; have u0 := (HK.out w2 B2).2.2; have BA : Below w2.heap.size w2 (w2.alloc (.cells #[.int .i64 to, .string s, .bool false] 48)) := (Below.refl _ _).alloc (Nat.le_refl _) _; obtain ⟨XX, OO, u1⟩ := HK.out _ (below_then B2 BA); have RR := blk_new w2 48 #[.int .i64 to, .string s, .bool false]; have ss : b + 1 ≤ (w2.alloc (.cells #[.int .i64 to, .string s, .bool false] 48)).heap.size := by have := BA.size; have := B2.size; omega)))
  all_goals
    go_wp2
    go_ret
    have hown : ∀ g, (Value.slice (some ⟨g', 0, none⟩) (n + 1) cap').ownBlock = some g → g = g' := fun g hg => by
      simp only [Value.ownBlock, Option.some.injEq] at hg
      exact hg.symm
    refine ⟨rfl, ⟨_, X3.set 0 _, ?_⟩, ?_⟩
    · have := O3.other (a := ⟨b, 0, none⟩) (fun e => by have h9 := (O3.lt _ e).1; simp only at h9; omega) (.slice (some ⟨g', 0, none⟩) (L.length + 1) cap')
      rw [hn] at this
      exact this
    · refine turns_set (below_then B2 BA) hb K3.out (fun g hg => (HR.out g (K3.out.trans hg)).1) G3 X3 (fun g hg => ?_)
      rw [hown g hg]
      rcases N3 with e | e
      · exact Or.inl e
      · refine Or.inr ?_
        have := B2.size
        simp at e
        omega
end Go.Proofs.YtmoohnpffohgeaaDoor
