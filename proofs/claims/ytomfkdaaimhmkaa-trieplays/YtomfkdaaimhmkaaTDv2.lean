/- Package trie's DropValue: all rows with a value are gone. -/
import Derived.Test.YtomfkdaaimhmkaaTDv
import Derived.Test.YtomfkdaaimhmkaaTDrop
namespace Go.Proofs.Ytomfkdaaimhmkaa
open Go.ChangeShapes Go.WideShapes Go.ChangeAt Go.RowKit Go.Maps
/-- What DropValue's visitor keeps. -/
def JV (vl : List Int → Option Int) (B vb gb : Nat) (u : Int) (acc : List Ent) (I : Nat → Prop) (W : World) : Prop :=
  ∃ vg R, Blk1 W vb 3 (.int .i64 u) ∧ Blk1 W gb 56 vg ∧ RG W B vg R ∧ R.map (·.2) = (acc.filter (fun a => decide (a.2 = u))).map (·.1) ∧ (∀ x, I x ↔ (x = vb ∨ x = gb ∨ rin vg R x)) ∧ ¬ rin vg R gb ∧ ¬ rin vg R vb ∧ (B ≤ gb ∧ vb ≠ gb) ∧ (acc.map (·.1)).Nodup ∧ ∀ a ∈ acc, vl a.1 = some a.2
theorem vis_dv (vl : List Int → Option Int) (B vb gb cnt : Nat) (u : Int) (hL : ∃ L : List (List Int), L.Nodup ∧ L.length = cnt ∧ ∀ q, q ∈ L ↔ vl q ≠ none) (hC : cnt ≤ 1000) : VisitV vl (JV vl B vb gb u) (.pointer (some ⟨vb, 0, none⟩)) (.pointer (some ⟨gb, 0, none⟩)) := by
  have hlen : ∀ acc : List Ent, (acc.map (·.1)).Nodup → (∀ a ∈ acc, vl a.1 = some a.2) → acc.length ≤ 1000 := fun acc hn hv => by
    obtain ⟨L, _, h2, h3⟩ := hL
    have := nodup_le (acc.map (·.1)) L hn (fun x hx => by
      obtain ⟨a, ha, rfl⟩ := List.mem_map.1 hx
      exact (h3 _).2 (by rw [hv a ha]; simp))
    rw [List.length_map] at this
    omega
  have hnod : ∀ (acc : List Ent) (q : List Int) (v : Int), (acc.map (·.1)).Nodup → (∀ a ∈ acc, a.1 ≠ q) → ((acc ++ [(q, v)]).map (·.1)).Nodup := fun acc q v h7 hacc => by
    rw [List.map_append, List.nodup_append]
    refine ⟨h7, by simp, fun a ha b hb e => ?_⟩
    simp only [List.map_cons, List.map_nil, List.mem_singleton] at hb
    obtain ⟨c, hc, rfl⟩ := List.mem_map.1 ha
    exact hacc c hc (by rw [e, hb])
  have hval : ∀ (acc : List Ent) (q : List Int) (v : Int), (∀ a ∈ acc, vl a.1 = some a.2) → vl q = some v → ∀ a ∈ acc ++ [(q, v)], vl a.1 = some a.2 := fun acc q v h8 hv a ha => by
    rcases List.mem_append.1 ha with b | b
    · exact h8 a b
    · rw [List.mem_singleton] at b; subst b; exact hv
  refine ⟨?_, ?_, ?_⟩
  · rintro acc I W W' ⟨vg, R, h0, h1, h2, h3, h4, h5, h5b, h6, h7, h8⟩ hk
    have hb : W'.heap[gb]? = W.heap[gb]? := hk gb ((h4 gb).2 (Or.inr (Or.inl rfl)))
    have hb0 : W'.heap[vb]? = W.heap[vb]? := hk vb ((h4 vb).2 (Or.inl rfl))
    exact ⟨vg, R, hb0.trans h0, hb.trans h1, h2.keep (fun x hx => hk x ((h4 x).2 (Or.inr (Or.inr hx)))), h3, h4, h5, h5b, h6, h7, h8⟩
  · rintro acc I W x ⟨vg, R, h0, h1, h2, h3, h4, h5, h5b, h6, h7, h8⟩ hx
    rcases (h4 x).1 hx with rfl | rfl | a
    · exact h0.lt
    · exact h1.lt
    · exact (h2.lt a).2
  · rintro acc I W rv q v ⟨vg, R, h0, h1, h2, h3, h4, h5, h5b, h6, h7, h8⟩ hO hq hql hrv hv hacc
    have hl := hlen _ h7 h8
    have hRl : R.length ≤ acc.length := by
      have e := congrArg List.length h3
      rw [List.length_map, List.length_map] at e
      rw [e]; exact List.length_filter_le _ _
    by_cases hvu : v = u
    · subst hvu
      refine (visV_yes B vb gb v vg rv R q W h0 h1 h2 h5 hO hq hql (by omega) (by have := h1.lt; omega)).mono ?_
      rintro e W' ⟨rfl, vg', cv, k1, k2, k3, k4, k5⟩
      have hin : ∀ y, y < W.heap.size → ¬ rin vg R y → ¬ rin vg' (R ++ [(cv, q)]) y := fun y hy hn h => by
        rcases k3 y h with a | a
        · exact hn a
        · omega
      have kv : Blk1 W' vb 3 (.int .i64 v) := (k5 vb h0.lt h6.2 h5b).trans h0
      refine ⟨rfl, fun x => x = vb ∨ x = gb ∨ rin vg' (R ++ [(cv, q)]) x, ⟨vg', _, kv, k1, k2, ?_, fun x => Iff.rfl, hin gb h1.lt h5, hin vb h0.lt h5b, h6, hnod acc q v h7 hacc, hval acc q v h8 hv⟩, ⟨k4, fun x hx => ?_, fun x hx h _ => ?_⟩⟩
      · rw [List.map_append, h3, List.filter_append, List.map_append]; simp
      · rcases hx with rfl | rfl | hx
        · exact Or.inl ((h4 x).2 (Or.inl rfl))
        · exact Or.inl ((h4 x).2 (Or.inr (Or.inl rfl)))
        · rcases k3 x hx with a | a
          · exact Or.inl ((h4 x).2 (Or.inr (Or.inr a)))
          · exact Or.inr a
      · exact k5 x hx (fun e => h ((h4 x).2 (Or.inr (Or.inl e)))) (fun e => h ((h4 x).2 (Or.inr (Or.inr e))))
    · refine (visV_no vb gb u v rv W h0 hvu).mono ?_
      rintro e W' ⟨rfl, rfl⟩
      refine ⟨rfl, I, ⟨vg, R, h0, h1, h2, ?_, h4, h5, h5b, h6, hnod acc q v h7 hacc, hval acc q v h8 hv⟩, Far.refl _ _ _⟩
      rw [h3, List.filter_append]; simp [hvu]
theorem RG.form {w : World} {B : Nat} {v : Value} {R : List RR} (h : RG w B v R) : ∃ ao c, v = .slice ao R.length c := by
  rcases h.row.2 with ⟨rfl, e⟩ | ⟨g, cap, cur, rfl, _⟩
  · exact ⟨none, 0, by rw [e]⟩
  · exact ⟨_, _, rfl⟩
theorem RG.cells {w : World} {B c : Nat} {ao : Option Addr} {R : List RR} (h : RG w B (.slice ao R.length c) R) (hn : 0 < R.length) : ∃ g, ao = some ⟨g, 0, none⟩ ∧ ∀ t (ht : t < R.length), w.cell? ⟨g, t, none⟩ = some R[t].1 := by
  rcases h.row.2 with ⟨_, e⟩ | ⟨g, cap, cur, hv, r⟩
  · omega
  · injection hv with e1 e2 e3
    subst e1
    refine ⟨g, rfl, fun t ht => ?_⟩
    have hf : (R.map (·.1))[t]? = some R[t].1 := by rw [List.getElem?_map, List.getElem?_eq_getElem ht]; rfl
    have c0 := World.ownsRow.cells h.row (g := g) rfl t _ hf
    have e2 : (Addr.mk g 0 none).add t = ⟨g, t, none⟩ := by simp [Addr.add]; intro h; exact h.symm
    rw [e2] at c0
    exact c0
theorem RG.beside {w w' : World} {B n : Nat} {v : Value} {R : List RR} {S S' : TS} (h : RG w B v R) (hd : ∀ x, rin v R x → ¬ S.has x) (o : Own S w S' w' n) : RG w' B v R ∧ ∀ x, rin v R x → ¬ S'.has x :=
  ⟨h.keep (fun x hx => o.kept x (h.lt hx).2 (hd x hx)), fun x h1 h2 => by
    rcases o.mine x h2 with a | a
    · exact hd x h1 a
    · have := (h.lt h1).2; omega⟩
/-- What is left without a value. -/
def noV (vl : List Int → Option Int) (u : Int) (q : List Int) : Option Int := if vl q = some u then none else vl q
/-- What is left without some rows. -/
def noR (vl : List Int → Option Int) (L : List (List Int)) (q : List Int) : Option Int := if q ∈ L then none else vl q
theorem noR_step {vl : List Int → Option Int} {L : List (List Int)} {i : Nat} (h : i < L.length) : upd (noR vl (L.take i)) L[i] none = noR vl (L.take (i + 1)) := funext fun q => by
  unfold noR
  rw [List.take_succ_eq_append_getElem h]
  by_cases e : q = L[i]
  · rw [e, upd_same, if_pos (List.mem_append_right _ (List.mem_singleton.2 rfl))]
  · rw [upd_other _ _ e]
    by_cases k : q ∈ L.take i
    · rw [if_pos k, if_pos (List.mem_append_left _ k)]
    · rw [if_neg k, if_neg (fun h => by rcases List.mem_append.1 h with a | a; exact k a; exact e (List.mem_singleton.1 a))]
theorem noR_all {vl : List Int → Option Int} {L : List (List Int)} {u : Int} (h : ∀ q, q ∈ L ↔ vl q = some u) : noR vl L = noV vl u := funext fun q => by
  unfold noR noV
  by_cases k : q ∈ L
  · rw [if_pos k, if_pos ((h q).1 k)]
  · rw [if_neg k, if_neg (fun e => k ((h q).2 e))]
set_option maxRecDepth 100000 in
set_option maxHeartbeats 4000000 in
theorem dropv_any (w : World) (B tb NB cnt : Nat) (S : TS) (vl : List Int → Option Int) (u : Int) (h : TA w B tb S vl NB cnt) (hN : NB < 1000000000) :
   Calls Try.prog 14 #[.pointer (some ⟨tb, 0, none⟩), .int .i64 u] w fun e w' => ∃ (k : Nat) (S' : TS), e = .returned (.int .i64 (k : Int)) ∧ k ≤ cnt ∧ TA w' B tb S' (noV vl u) NB (cnt - k) ∧ Own S w S' w' 128 ∧ Below B w w' := by
  obtain ⟨w2, hw2⟩ : ∃ w2, w2 = (w.alloc (.cells #[.int .i64 u] 3)).alloc (.cells #[.slice none 0 0] 56) := ⟨_, rfl⟩
  have B2 : Below w.heap.size w w2 := by rw [hw2]; exact (below_alloc w _).alloc (by simp) _
  have s2 : w2.heap.size = w.heap.size + 1 + 1 := by rw [hw2]; simp
  have hbv : Blk1 w2 w.heap.size 3 (.int .i64 u) := by
    have h1 : (w.alloc (.cells #[.int .i64 u] 3)).heap[w.heap.size]? = some (.cells #[.int .i64 u] 3 (0, 0)) := heap_alloc_new w _
    rw [hw2]; exact (Below.heap_alloc _ _ _ (by simp)).trans h1
  have hbg : Blk1 w2 (w.heap.size + 1) 56 (.slice none 0 0) := by
    have h1 := heap_alloc_new (w.alloc (.cells #[.int .i64 u] 3)) (.cells #[.slice none 0 0] 56)
    rw [hw2]
    have e : (w.alloc (.cells #[.int .i64 u] 3)).heap.size = w.heap.size + 1 := by simp
    rw [e] at h1
    exact h1
  have hI0 : ∀ x, ¬ rin (.slice none 0 0) [] x := fun x hx => by rcases hx with a | ⟨e, he, _⟩; cases a; cases he
  have hT := h.ti
  have hTB : B ≤ w.heap.size := by have := hT.base _ _ hT.root; have := hT.lt hT.root; omega
  have CW := walkV_any (JV vl w.heap.size w.heap.size (w.heap.size + 1) u) (.pointer (some ⟨w.heap.size, 0, none⟩)) (.pointer (some ⟨w.heap.size + 1, 0, none⟩)) B tb NB cnt S (by rw [h.vv]; exact vis_dv vl w.heap.size w.heap.size (w.heap.size + 1) cnt u h.ls h.cm) hN h.dp 129 [] tb (.slice none 0 0) w2 [] (fun x => x = w.heap.size ∨ x = w.heap.size + 1 ∨ rin (.slice none 0 0) [] x) (by simp) (hT.below B2) hT.root (World.ownsRow_nil _ _ _ _) (fun k => by simp [el]) (fun x hx => by cases hx) (fun x hx h => by
      have := hT.has_lt hx
      rcases h with rfl | rfl | a
      · omega
      · omega
      · exact hI0 x a) ⟨_, [], hbv, hbg, ⟨World.ownsRow_nil _ _ _ _, fun e he => (by cases he), fun e he => (by cases he)⟩, rfl, fun x => Iff.rfl, hI0 _, hI0 _, ⟨by omega, by omega⟩, (by simp), fun a ha => (by cases ha)⟩ (fun a ha => (by cases ha))
  rw [h.vv] at CW
  have HTA : Hid (TA w B tb S vl NB cnt) := h
  have HB2 : Hid (Below w.heap.size w w2) := B2
  have HS2 : Hid (w2.heap.size = w.heap.size + 1 + 1) := s2
  have HW : Hid (w2 = (w.alloc (.cells #[.int .i64 u] 3)).alloc (.cells #[.slice none 0 0] 56)) := hw2
  rw [hw2] at CW
  clear h hT hbv hbg B2 s2 hw2
  go_enter Try.func14, Try.ntmps14
  go_wp2_with (go_at_call 27; refine CW.mono ?_; clear CW; rintro e w3 ⟨rfl, I3, out, ⟨vg, R, k0, k1, k2, k3, k4, k5, k5b, k6, k7, k8⟩, Q3, O3, F3⟩; obtain ⟨ao, cx, rfl⟩ := k2.form; have c3 := k1.cell)
  have hI0' : ∀ x, ¬ (x = w.heap.size ∨ x = w.heap.size + 1 ∨ rin (.slice none 0 0) [] x) ↔ (x ≠ w.heap.size ∧ x ≠ w.heap.size + 1) := fun x => ⟨fun h => ⟨fun e => h (Or.inl e), fun e => h (Or.inr (Or.inl e))⟩, fun h k => by rcases k with a | a | a; exact h.1 a; exact h.2 a; exact hI0 x a⟩
  rw [← HW.out] at F3
  have kp : ∀ x, x < w.heap.size → w3.heap[x]? = w.heap[x]? := fun x hx => (F3.kept x (by have := HS2.out; omega) ((hI0' x).2 ⟨by omega, by omega⟩) (by simp [Value.ownBlock])).trans (HB2.out.block x hx)
  have B3 : Below w.heap.size w w3 := ⟨F3.b0.os.trans HB2.out.os, F3.b0.tape.trans HB2.out.tape, F3.b0.output.trans HB2.out.output, Nat.le_trans HB2.out.size F3.b0.size, kp⟩
  rw [List.nil_append] at k3
  have hmR : ∀ q, q ∈ R.map (·.2) ↔ vl q = some u := fun q => by
    rw [k3, List.mem_map]
    constructor
    · rintro ⟨a, ha, rfl⟩
      obtain ⟨h1, h2⟩ := List.mem_filter.1 ha
      have h3 := ((Q3.2 a.1 a.2).1 h1).2
      rw [h3, of_decide_eq_true h2]
    · intro hq
      exact ⟨(q, u), List.mem_filter.2 ⟨(Q3.2 q u).2 ⟨List.nil_prefix, hq⟩, decide_eq_true rfl⟩, rfl⟩
  have hnR : (R.map (·.2)).Nodup := by
    rw [k3]
    exact List.pairwise_map.2 ((Q3.1.filter _).imp fun {a b} hab e => by rw [e, lessL_self] at hab; cases hab)
  have HmR : Hid (∀ q, q ∈ R.map (·.2) ↔ vl q = some u) := hmR
  have HnR : Hid ((R.map (·.2)).Nodup) := hnR
  have hRc : R.length ≤ cnt := by
    obtain ⟨L, l1, l2, l3⟩ := HTA.out.ls
    have := nodup_le (R.map (·.2)) L hnR (fun x hx => (l3 x).2 (by rw [(hmR x).1 hx]; simp))
    rw [List.length_map] at this; omega
  have hcm := HTA.out.cm
  have T3 : TA w3 B tb S (noR vl ((R.map (·.2)).take 0)) NB (cnt - 0) := by
    have e : noR vl ((R.map (·.2)).take 0) = vl := funext fun q => by unfold noR; rw [List.take_zero, if_neg (by simp)]
    rw [e]; exact HTA.out.below B3
  have O3' : Own S w S w3 128 := ⟨B3.size, fun x hx _ => kp x hx, fun x h => Or.inl h, fun q h => Or.inl h⟩
  have nS : ∀ x, rin (.slice ao R.length cx) R x → ¬ S.has x := fun x hx h => by have := (k2.lt hx).1; have := HTA.out.ti.has_lt h; omega
  have nG : ¬ S.has (w.heap.size + 1) := fun h => by have := HTA.out.ti.has_lt h; omega
  have hng : Hid (¬ rin (.slice ao R.length cx) R (w.heap.size + 1)) := k5
  clear k0 k4 k5b k6 k7 k8 Q3 O3 F3 kp k3 hmR hnR hI0 hI0' k5
  go_loopg [15] R.length (fun r s15 wr => ∃ (i : Nat) (Si : TS), i ≤ R.length ∧ r = R.length - i ∧ s15 = .int .i64 (i : Int) ∧ TA wr B tb Si (noR vl ((R.map (·.2)).take i)) NB (cnt - i) ∧ Own S w Si wr 128 ∧ Below B w wr ∧ RG wr w.heap.size (.slice ao R.length cx) R ∧ (∀ x, rin (.slice ao R.length cx) R x → ¬ Si.has x) ∧ Blk1 wr (w.heap.size + 1) 56 (.slice ao R.length cx) ∧ ¬ Si.has (w.heap.size + 1))
  case atStart => exact ⟨0, S, by omega, by omega, rfl, T3, O3', B3.mono hTB, k2, nS, k1, nG⟩
  case round =>
    clear T3 O3' B3 k2 nS k1 nG c3
    obtain ⟨i, Si, hi, rfl, rfl, TI', OI, BI, RI, nI, GI, nGi⟩ := hrel
    by_cases hlt : i < R.length
    case neg =>
      obtain rfl : i = R.length := by omega
      have HF : Hid (TA wr B tb Si (noV vl u) NB (cnt - R.length) ∧ Own S w Si wr 128 ∧ Below B w wr) := by
        have e := noR_all HmR.out
        have h := TI'
        rw [List.take_of_length_le (by rw [List.length_map]; exact Nat.le_refl _), e] at h
        exact ⟨h, OI, BI⟩
      have cg := GI.cell
      clear TI' OI BI RI nI GI nGi
      go_wp2_with fail
      go_ret
      exact ⟨R.length, Si, rfl, hRc, HF.out.1, HF.out.2.1, HF.out.2.2⟩
    case pos =>
      obtain ⟨g, rfl, hc⟩ := RI.cells (by omega)
      have ck := hc i hlt
      have hmem := List.getElem_mem hlt
      obtain ⟨a, c, es, hAr⟩ := (RI.own _ hmem).arg (RI.sm _ hmem)
      have hvA : vl R[i].2 = some u := (HmR.out _).1 (List.mem_map.2 ⟨_, hmem, rfl⟩)
      have hAl : R[i].2.length ≤ 128 := HTA.out.dp _ (HTA.out.ti.vnd _ (by rw [HTA.out.vv, hvA]; simp))
      have hli : i < (R.map (·.2)).length := by rw [List.length_map]; exact hlt
      have eLi : (R.map (·.2))[i] = R[i].2 := List.getElem_map ..
      have hnt : R[i].2 ∉ (R.map (·.2)).take i := fun h => by
        rw [← eLi] at h
        obtain ⟨j, hj, ej⟩ := List.getElem_of_mem h
        rw [List.length_take] at hj
        rw [List.getElem_take] at ej
        have := (List.getElem_inj HnR.out).1 ej
        omega
      have hx : noR vl ((R.map (·.2)).take i) R[i].2 = some u := by unfold noR; rw [if_neg hnt]; exact hvA
      have TKd : Tk wr a R[i].2.length R[i].2 := ⟨rfl, by omega, RI.sm _ hmem, hAr.row.cells⟩
      have D := drop_some a R[i].2.length c R[i].2 u wr B tb NB (cnt - i) Si _ TI' TKd hAr.fit hAr.max (fun b' o' e h => nI b' (Or.inr ⟨_, hmem, by rw [es, e]; rfl⟩) h) hN hx
      have HST : Hid (∀ w' S', TA w' B tb S' (upd (noR vl ((R.map (·.2)).take i)) R[i].2 none) NB (cnt - i - 1) → Own Si wr S' w' 128 → Below B wr w' → TA w' B tb S' (noR vl ((R.map (·.2)).take (i + 1))) NB (cnt - (i + 1)) ∧ Own S w S' w' 128 ∧ Below B w w' ∧ RG w' w.heap.size (.slice (some ⟨g, 0, none⟩) R.length cx) R ∧ (∀ x, rin (.slice (some ⟨g, 0, none⟩) R.length cx) R x → ¬ S'.has x) ∧ Blk1 w' (w.heap.size + 1) 56 (.slice (some ⟨g, 0, none⟩) R.length cx) ∧ ¬ S'.has (w.heap.size + 1)) := fun w' S' T O Bw => by
        obtain ⟨r1, r2⟩ := RI.beside nI O
        refine ⟨?_, OI.trans O (Nat.le_refl _), BI.trans Bw, r1, r2, (O.kept _ GI.lt nGi).trans GI, fun h => ?_⟩
        · rw [← noR_step hli, eLi, show cnt - (i + 1) = cnt - i - 1 by omega]; exact T
        · rcases O.mine _ h with b | b
          · exact nGi b
          · have := GI.lt; omega
      rw [es] at ck
      clear hc TI' OI BI RI nI GI nGi hmem es hAr hvA hli eLi hnt hx TKd
      generalize R[i].2 = A at *
      go_wp2_with (go_at_call 11; refine D.mono ?_; clear D; rintro e w4 ⟨rfl, ⟨S4, T4, O4⟩, B4⟩; obtain ⟨q1, q2, q3, q4, q5, q6, q7⟩ := HST.out w4 S4 T4 O4 B4; clear T4 O4 B4 HST)
      go_roundg (R.length - (i + 1))
      case measure => omega
      case rel => exact ⟨i + 1, S4, by omega, rfl, by go_num, q1, q2, q3, q4, q5, q6, q7⟩
end Go.Proofs.Ytomfkdaaimhmkaa
