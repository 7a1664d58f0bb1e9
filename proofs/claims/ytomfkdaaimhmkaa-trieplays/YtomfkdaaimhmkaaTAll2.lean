/- Package trie's All: all rows, in order, each with its value, in memory of their own. -/
import Derived.Test.YtomfkdaaimhmkaaTAll
namespace Go.Proofs.Ytomfkdaaimhmkaa
open Go.ChangeShapes Go.WideShapes Go.ChangeAt Go.RowKit Go.Maps
theorem EOwn.form {w : World} {B : Nat} {v : Value} {E : List RE} (h : EOwn w B v E) : ∃ ao c, v = .slice ao E.length c := by
  rcases h.row.2 with ⟨rfl, e⟩ | ⟨g, cap, cur, rfl, _⟩
  · exact ⟨none, 0, by rw [e]⟩
  · exact ⟨_, _, rfl⟩
theorem nodup_le : ∀ (l m : List (List Int)), l.Nodup → (∀ x ∈ l, x ∈ m) → l.length ≤ m.length
  | [], m, _, _ => Nat.zero_le _
  | a :: l, m, hn, hs => by
    have ha := hs a (List.mem_cons_self ..)
    have h1 := nodup_le l (m.erase a) (List.nodup_cons.1 hn).2 (fun x hx => (List.mem_erase_of_ne (show x ≠ a from fun e => (List.nodup_cons.1 hn).1 (by rw [← e]; exact hx))).2 (hs x (List.mem_cons_of_mem _ hx)))
    rw [List.length_erase_of_mem ha] at h1
    have h2 := List.length_pos_of_mem ha
    simp only [List.length_cons]
    omega
/-- What All's visitor keeps. -/
def JA (vl : List Int → Option Int) (B ab : Nat) (acc : List Ent) (I : Nat → Prop) (W : World) : Prop :=
  ∃ va E, Blk1 W ab 50 va ∧ EOwn W B va E ∧ E.map (·.2) = acc ∧ (∀ x, I x ↔ (x = ab ∨ ins va E x)) ∧ ¬ ins va E ab ∧ B ≤ ab ∧ (acc.map (·.1)).Nodup ∧ ∀ a ∈ acc, vl a.1 = some a.2
theorem vis_all (vl : List Int → Option Int) (B ab cnt : Nat) (hL : ∃ L : List (List Int), L.Nodup ∧ L.length = cnt ∧ ∀ q, q ∈ L ↔ vl q ≠ none) (hC : cnt ≤ 1000) : Visit vl (JA vl B ab) (.pointer (some ⟨ab, 0, none⟩)) := by
  have hlen : ∀ acc : List Ent, (acc.map (·.1)).Nodup → (∀ a ∈ acc, vl a.1 = some a.2) → acc.length ≤ 1000 := fun acc hn hv => by
    obtain ⟨L, _, h2, h3⟩ := hL
    have := nodup_le (acc.map (·.1)) L hn (fun x hx => by
      obtain ⟨a, ha, rfl⟩ := List.mem_map.1 hx
      exact (h3 _).2 (by rw [hv a ha]; simp))
    rw [List.length_map] at this
    omega
  refine ⟨?_, ?_, ?_⟩
  · rintro acc I W W' ⟨va, E, h1, h2, h3, h4, h5, h6, h7, h8⟩ hk
    have hb : W'.heap[ab]? = W.heap[ab]? := hk ab ((h4 ab).2 (Or.inl rfl))
    have h1' : Blk1 W' ab 50 va := hb.trans h1
    refine ⟨va, E, h1', h2.keep (fun x hx => hk x ((h4 x).2 (Or.inr hx))), h3, h4, h5, h6, h7, h8⟩
  · rintro acc I W x ⟨va, E, h1, h2, h3, h4, h5, h6, h7, h8⟩ hx
    rcases (h4 x).1 hx with rfl | a
    · exact h1.lt
    · exact (h2.lt a).2
  · rintro acc I W rv q v ⟨va, E, h1, h2, rfl, h4, h5, h6, h7, h8⟩ hO hq hql hrv hv hacc
    have hl := hlen _ h7 h8
    rw [List.length_map] at hl
    refine (vis_any B ab va rv E q v W h1 h2 h5 hO hq hql (by omega) (by have := h1.lt; omega)).mono ?_
    rintro e W' ⟨rfl, va', cv, k1, k2, k3, k4, k5⟩
    have hin : ¬ ins va' (E ++ [(cv, q, v)]) ab := fun h => by
      rcases k3 ab h with a | a
      · exact h5 a
      · have := h1.lt; omega
    refine ⟨rfl, fun x => x = ab ∨ ins va' (E ++ [(cv, q, v)]) x, ⟨va', _, k1, k2, by simp, fun x => Iff.rfl, hin, h6, ?_, ?_⟩, ⟨k4, fun x hx => ?_, fun x hx h _ => ?_⟩⟩
    · rw [List.map_append, List.nodup_append]
      refine ⟨h7, by simp, fun a ha b hb e => ?_⟩
      simp only [List.map_cons, List.map_nil, List.mem_singleton] at hb
      obtain ⟨c, hc, rfl⟩ := List.mem_map.1 ha
      exact hacc c hc (by rw [e, hb])
    · intro a ha
      rcases List.mem_append.1 ha with b | b
      · exact h8 a b
      · rw [List.mem_singleton] at b; subst b; exact hv
    · rcases hx with rfl | hx
      · exact Or.inl ((h4 x).2 (Or.inl rfl))
      · rcases k3 x hx with a | a
        · exact Or.inl ((h4 x).2 (Or.inr a))
        · exact Or.inr a
    · exact k5 x hx (fun e => h ((h4 x).2 (Or.inl e))) (fun e => h ((h4 x).2 (Or.inr e)))
set_option maxRecDepth 100000 in
set_option maxHeartbeats 2000000 in
theorem all_any (w : World) (B tb NB cnt : Nat) (S : TS) (vl : List Int → Option Int) (h : TA w B tb S vl NB cnt) (hN : NB < 1000000000) :
   Calls Try.prog 20 #[.pointer (some ⟨tb, 0, none⟩)] w fun e w' => ∃ ao c E, e = .returned (.slice ao E.length c) ∧ EOwn w' w.heap.size (.slice ao E.length c) E ∧ RowsOf vl [] (E.map (·.2)) ∧ E.length ≤ 1000 ∧ (∀ e ∈ E, e.2.1.length ≤ 128) ∧ Below w.heap.size w w' := by
  obtain ⟨hT, rfl, hD, hL, hC⟩ := h
  have HQ : Hid (∀ q v, S.vl q = some v → q.length ≤ 128) := fun q v hv => hD q (hT.vnd q (by rw [hv]; simp))
  obtain ⟨w1, hw1⟩ : ∃ w1, w1 = w.alloc (.cells #[.slice none 0 0] 50) := ⟨_, rfl⟩
  have B1 : Below w.heap.size w w1 := by rw [hw1]; exact below_alloc _ _
  have s1 : w1.heap.size = w.heap.size + 1 := by rw [hw1]; simp
  have hb1 : Blk1 w1 w.heap.size 50 (.slice none 0 0) := by rw [hw1]; exact heap_alloc_new w _
  have hI0 : ∀ x, ¬ ins (.slice none 0 0) [] x := fun x hx => by rcases hx with a | ⟨e, he, _⟩; cases a; cases he
  have CW := walk_any (JA S.vl w.heap.size w.heap.size) (.pointer (some ⟨w.heap.size, 0, none⟩)) B tb NB cnt S (vis_all S.vl w.heap.size w.heap.size cnt hL hC) hN hD 129 [] tb (.slice none 0 0) w1 [] (fun x => x = w.heap.size ∨ ins (.slice none 0 0) [] x) (by simp) (hT.below B1) hT.root (World.ownsRow_nil _ _ _ _) (fun k => by simp [el]) (fun x hx => by cases hx) (fun x hx h => by
      have := hT.has_lt hx
      rcases h with rfl | a
      · omega
      · exact hI0 x a) ⟨_, [], hb1, ⟨World.ownsRow_nil _ _ _ _, fun e he => (by cases he), fun e he => (by cases he)⟩, rfl, fun x => Iff.rfl, hI0 _, Nat.le_refl _, (by simp), fun a ha => (by cases ha)⟩ (fun a ha => (by cases ha))
  have BK : Hid (∀ W', Below 0 w1 W' → (∀ x, x < w1.heap.size → ¬ (x = w.heap.size ∨ ins (.slice none 0 0) [] x) → W'.heap[x]? = w1.heap[x]?) → Below w.heap.size w W') := fun W' h0 hk => ⟨h0.os.trans B1.os, h0.tape.trans B1.tape, h0.output.trans B1.output, Nat.le_trans B1.size h0.size, fun x hx => (hk x (by omega) (fun e => by rcases e with rfl | a; omega; exact hI0 x a)).trans (B1.block x hx)⟩
  have HL : Hid (∀ acc : List Ent, RowsOf S.vl [] acc → acc.length ≤ 1000) := fun acc ha => by
    obtain ⟨L, _, h2, h3⟩ := hL
    have hn : (acc.map (·.1)).Nodup := List.pairwise_map.2 (ha.1.imp fun {a b} hab e => by rw [e, lessL_self] at hab; cases hab)
    have := nodup_le (acc.map (·.1)) L hn (fun x hx => by
      obtain ⟨a, ha2, rfl⟩ := List.mem_map.1 hx
      exact (h3 _).2 (by rw [((ha.2 a.1 a.2).1 ha2).2]; simp))
    rw [List.length_map] at this
    omega
  rw [hw1] at CW
  have HW : Hid (w1 = w.alloc (.cells #[.slice none 0 0] 50)) := hw1
  clear hT hD hL hC hb1 hI0 B1 s1 hw1
  go_enter Try.func20, Try.ntmps20
  go_wp2_with (go_at_call 27; refine CW.mono ?_; clear CW; rintro e w3 ⟨rfl, I3, out, ⟨va, E, k1, k2, k3, k4, k5, k6, k7, k8⟩, Q3, O3, F3⟩; obtain ⟨ao, cx, rfl⟩ := k2.form; have c3 := k1.cell)
  go_ret
  rw [List.nil_append] at k3
  have el : (E.map (·.2)).length = E.length := List.length_map ..
  have hl := HL.out _ Q3
  rw [← k3] at Q3 hl
  refine ⟨ao, cx, E, rfl, k2, Q3, by omega, fun e he => HQ.out e.2.1 e.2.2 ((Q3.2 e.2.1 e.2.2).1 (List.mem_map.2 ⟨e, he, rfl⟩)).2, BK.out w3 (by rw [HW.out]; exact F3.b0) (by rw [HW.out]; exact fun x h1 h2 => F3.kept x h1 h2 (by simp [Value.ownBlock]))⟩
end Go.Proofs.Ytomfkdaaimhmkaa
