/- A walk through a trie: the visitor is told just the rows that begin so, in order. -/
import Derived.Test.YtomfkdaaimhmkaaTAll2
import Derived.Deep.CutRange
import Derived.Deep.RegionHeld3
namespace Go.Proofs.Ytomfkdaaimhmkaa
open Go.ChangeShapes Go.WideShapes Go.ChangeAt Go.RowKit Go.Maps

/-- What a visitor keeps, and does. -/
structure VisitV (vl : List Int → Option Int) (J : List Ent → (Nat → Prop) → World → Prop) (c c2 : Value) : Prop where
  keep : ∀ acc I W W', J acc I W → (∀ x, I x → W'.heap[x]? = W.heap[x]?) → J acc I W'
  low : ∀ acc I W x, J acc I W → I x → x < W.heap.size
  call : ∀ acc I W rv (q : List Int) v, J acc I W → IOwn W 0 rv q.length q → Sm q → q.length ≤ 128 → (∀ x, rv.ownBlock = some x → ¬ I x) → vl q = some v → (∀ a ∈ acc, a.1 ≠ q) →
    Calls Try.prog 28 #[rv, .int .i64 v, c, c2] W fun e W' => e = .returned (.tuple #[]) ∧ ∃ I', J (acc ++ [(q, v)]) I' W' ∧ Far (.slice none 0 0) W I W' I'
set_option maxRecDepth 100000 in
set_option maxHeartbeats 8000000 in
theorem walkV_any (J : List Ent → (Nat → Prop) → World → Prop) (c c2 : Value) (B tb NB cnt : Nat) (S : TS) (HV : VisitV S.vl J c c2) (hN : NB < 1000000000) (hD : ∀ q, S.nd q ≠ none → q.length ≤ 128) :
    ∀ (d : Nat) (p : List Int) (g : Nat) (rv : Value) (W : World) (acc : List Ent) (I : Nat → Prop), p.length + d = 129 → TI W B tb S NB cnt → S.nd p = some g → IOwn W 0 rv p.length p → Sm p → (∀ x, rv.ownBlock = some x → ¬ I x ∧ ¬ S.has x) → (∀ x, S.has x → ¬ I x) → J acc I W → (∀ a ∈ acc, ¬ p <+: a.1) →
    Calls Try.prog 27 #[.pointer (some ⟨g, 0, none⟩), rv, (.func (.func 28) #[] #[c, c2])] W fun e W' => e = .returned (.tuple #[]) ∧ ∃ I' out, J (acc ++ out) I' W' ∧ RowsOf S.vl p out ∧ IOwn W' 0 rv p.length p ∧ Far rv W I W' I'
  | 0, p, g, rv, W, acc, I, hd, hT, hg, hO, hS, hrv0, hSI0, hJ, hacc0 => by
    have := hD p (by rw [hg]; simp)
    omega
  | d + 1, p, g, rv, W, acc, I, hd, hT, hg, hO, hSm, hrv0, hSI0, hJ, hacc0 => by
    have IH : Hid (∀ (p : List Int) (g : Nat) (rv : Value) (W : World) (acc : List Ent) (I : Nat → Prop), p.length + d = 129 → TI W B tb S NB cnt → S.nd p = some g → IOwn W 0 rv p.length p → Sm p → (∀ x, rv.ownBlock = some x → ¬ I x ∧ ¬ S.has x) → (∀ x, S.has x → ¬ I x) → J acc I W → (∀ a ∈ acc, ¬ p <+: a.1) →
      Calls Try.prog 27 #[.pointer (some ⟨g, 0, none⟩), rv, (.func (.func 28) #[] #[c, c2])] W fun e W' => e = .returned (.tuple #[]) ∧ ∃ I' out, J (acc ++ out) I' W' ∧ RowsOf S.vl p out ∧ IOwn W' 0 rv p.length p ∧ Far rv W I W' I') := walkV_any J c c2 B tb NB cnt S HV hN hD d
    have hp128 := hD p (by rw [hg]; simp)
    have c1 := hT.c1 p g hg
    have c2 := hT.c2 p g hg
    have HT : Hid (TI W B tb S NB cnt) := hT
    have HTW : Hid (TI W B tb S NB cnt) := hT
    have HTK : Hid (∀ p k s v, S.vl (p ++ [k] ++ s) = some v → S.nd (p ++ [k]) ≠ none) := fun p k s v hv => hT.key p k s v hv
    have hrv : Hid (∀ x, rv.ownBlock = some x → ¬ I x ∧ ¬ S.has x) := hrv0
    have hSI : Hid (∀ x, S.has x → ¬ I x) := hSI0
    have hTl : Hid (∀ x, S.has x → x < W.heap.size) := fun x hx => hT.has_lt hx
    have hlow : Hid (∀ x, rv.ownBlock = some x → x < W.heap.size) := fun x hx => (World.ownsRow.lt hO x hx).2
    have HG : Hid (S.nd p = some g) := hg
    have hacc : Hid (∀ a ∈ acc, ¬ p <+: a.1) := hacc0
    clear hT hrv0 hSI0 hg hacc0
    go_enter Try.func27, Try.ntmps27
    go_upto_if 11 with fail
    go_cut [0] from 8 (fun s0 wc => s0 = .pointer (some ⟨g, 0, none⟩) ∧ ∃ I1, J (acc ++ here S.vl p) I1 wc ∧ IOwn wc 0 rv p.length p ∧ Far rv W I wc I1)
    case first =>
      rcases hv : S.vl p with _ | v
      · rw [hv] at c1
        have hz : Hid (here S.vl p = []) := by show here S.vl p = []; unfold here; rw [hv]
        simp only [Option.isSome_none] at c1
        clear c2 hv
        go_wp2_with fail
        go_meet
        case rel => exact ⟨rfl, I, by rw [hz.out, List.append_nil]; exact hJ, hO, Far.refl _ _ _⟩
      · rw [hv] at c1 c2
        have hz : Hid (here S.vl p = [(p, v)]) := by show here S.vl p = [(p, v)]; unfold here; rw [hv]
        simp only [Option.isSome_some, Option.getD_some] at c1 c2
        have CV := HV.call acc I W rv p v hJ hO hSm hp128 (fun x hx => (hrv.out x hx).1) hv (fun a ha e => hacc.out a ha (by rw [e]; exact List.prefix_refl _))
        have hO' : Hid (IOwn W 0 rv p.length p) := hO
        clear hv hO hJ
        go_wp2_with (go_at_call 28; refine CV.mono ?_; clear CV; rintro e w2 ⟨rfl, I1, J1, F1⟩)
        go_meet
        case rel => exact ⟨rfl, I1, by rw [hz.out]; exact J1, IOwn.keep hO'.out (fun x hx => F1.kept x (hlow.out x hx) (hrv.out x hx).1 (by simp [Value.ownBlock])), F1.row rv⟩
    case rest =>
      obtain ⟨rfl, I1, hJ1, hO1, hF1⟩ := hcut
      clear hO hJ c1 c2
      have hk1 : ∀ x, S.has x → wc.heap[x]? = W.heap[x]? := fun x hx => hF1.kept x (hTl.out x hx) (hSI.out x hx) (fun e => (hrv.out x e).2 hx)
      have T1 : TI wc B tb S NB cnt := HT.out.same (fun p g hp => hk1 g (Or.inl ⟨p, hp⟩)) (fun p g hp => hk1 g (Or.inr ⟨p, hp⟩))
      have c0 := T1.c0 p g HG.out
      have CS := sorted_TI T1 p hN
      have CK := keys_call (S.mp p) wc
      clear hk1 HT T1
      have hJ1' : Hid (J (acc ++ here S.vl p) I1 wc) := hJ1
      have hO1' : Hid (IOwn wc 0 rv p.length p) := hO1
      have hF1' : Hid (Far rv W I wc I1) := hF1
      clear hJ1 hO1 hF1
      go_wp2_with (first
        | (go_at_call 32; refine CK.mono ?_; clear CK; rintro e w2 ⟨rfl, rfl⟩)
        | (go_at_call 31; refine CS.mono ?_; clear CS; rintro e w3 ⟨ao, ca, ks, rfl, hks0, hkm0, hkbd0, hkl, hK3, hkb3, B3⟩))
      have hks : Hid (ks.Pairwise (· < ·)) := hks0
      have hkm : Hid (∀ x, x ∈ ks ↔ S.nd (p ++ [x]) ≠ none) := hkm0
      have hkbd : Hid (∀ x, x ∈ ks → -9223372036854775808 ≤ x ∧ x ≤ 9223372036854775807) := hkbd0
      have J3 := HV.keep _ _ _ w3 hJ1'.out (fun x hx => B3.block x (HV.low _ _ _ x hJ1'.out hx))
      have O3 := IOwn.keep hO1'.out (fun x hx => B3.block x (World.ownsRow.lt hO1'.out x hx).2)
      have F3 : Far rv W I w3 I1 := hF1'.out.trans (Far.below rv I1 B3)
      have kb3 : ∀ b o, ao = some ⟨b, o, none⟩ → ¬ I1 b ∧ b < w3.heap.size ∧ rv.ownBlock ≠ some b := fun b o e => ⟨fun h => by have := HV.low _ _ _ b hJ1'.out h; have := (hkb3 b o e).1; omega, (hkb3 b o e).2, fun h => by have := hlow.out b h; have := (hkb3 b o e).1; have := hF1'.out.size; omega⟩
      clear hks0 hkm0 hkbd0 hkb3 B3 hJ1' hO1' hF1' c0
      go_loopg [26] ks.length (fun r s26 wr => ∃ (i : Nat) (I2 : Nat → Prop) (out : List Ent), i ≤ ks.length ∧ r = ks.length - i ∧ s26 = .int .i64 (i : Int) ∧ J (acc ++ here S.vl p ++ out) I2 wr ∧ RowsTo S.vl p ks i out ∧ IOwn wr 0 rv p.length p ∧ Far rv W I wr I2 ∧ IArg wr ao ks.length ca ks ∧ (∀ b o, ao = some ⟨b, o, none⟩ → ¬ I2 b ∧ b < wr.heap.size ∧ rv.ownBlock ≠ some b))
      case atStart => exact ⟨0, I1, [], by omega, by omega, rfl, by rw [List.append_nil]; exact J3, rowsTo_zero _ _ _, O3, F3, hK3, kb3⟩
      case round =>
      clear J3 O3 F3 hK3 kb3
      obtain ⟨i, I2, out, hi, rfl, rfl, hJ2, hR2, hO2, hF2, hK2, hkb⟩ := hrel
      by_cases hlt : i < ks.length
      case neg =>
        obtain rfl : i = ks.length := by omega
        have hall : Hid (∀ k s v, S.vl (p ++ [k] ++ s) = some v → k ∈ ks) := fun k s v hv => (hkm.out k).2 (HTK.out p k s v hv)
        go_wp2_with fail
        go_end0
        exact ⟨rfl, I2, here S.vl p ++ out, by rw [← List.append_assoc]; exact hJ2, rows_node hR2 hall.out, hO2, hF2⟩
      have hk2 : ∀ x, S.has x → wr.heap[x]? = W.heap[x]? := fun x hx => hF2.kept x (hTl.out x hx) (hSI.out x hx) (fun e => (hrv.out x e).2 hx)
      have hT2 : Hid (TI wr B tb S NB cnt) := HTW.out.same (fun p g hp => hk2 g (Or.inl ⟨p, hp⟩)) (fun p g hp => hk2 g (Or.inr ⟨p, hp⟩))
      clear hk2
      obtain ⟨kb, ko, hao, hc⟩ := hK2.row.cells (by omega)
      have ck := hc i hlt
      subst hao
      have kmem : ks.getD i 0 ∈ ks := by rw [List.getD_eq_getElem?_getD, List.getElem?_eq_getElem hlt]; exact List.getElem_mem hlt
      have kin := hkbd.out _ kmem
      have Smk : Hid (Sm (p ++ [ks.getD i 0])) := hSm.snoc kin
      have knd := (hkm.out _).1 kmem
      obtain ⟨g2, hg2⟩ := Option.ne_none_iff_exists'.1 knd
      have hq2 : Hid (S.nd (p ++ [ks.getD i 0]) = some g2) := hg2
      obtain ⟨mb, hmb⟩ : ∃ mb, S.mp p = some mb := by
        rcases hm : S.mp p with _ | mb
        · exact absurd (hT2.out.m0 p hm _) knd
        · exact ⟨mb, rfl⟩
      have hkd : Hid (ks.getD i 0 = ks.getD i 0) := rfl
      have HS : Hid (∀ W2 : World, (∀ x, S.has x → W2.heap[x]? = wr.heap[x]?) → W2.cell? ⟨g, 0, none⟩ = some (.map (some mb)) ∧ (Instr.lookup 24 (.map (some mb)) (.int .i64 (ks.getD i 0)) false).run Try.prog W2 = .ok (.pointer (some ⟨g2, 0, none⟩)) W2) := fun W2 h => by
        have T2 : TI W2 B tb S NB cnt := hT2.out.same (fun p g hp => h g (Or.inl ⟨p, hp⟩)) (fun p g hp => h g (Or.inr ⟨p, hp⟩))
        have a := T2.c0 p g HG.out
        rw [hmb] at a
        obtain ⟨n1, _, hm1⟩ := T2.m1 p mb hmb
        have b := hm1.look _ (wfI _ kin.1 kin.2)
        rw [hg2] at b
        exact ⟨a, b⟩
      clear hc knd hg2 hmb kmem
      have ck' : wr.cell? ⟨kb, ko + i, none⟩ = some (.int .i64 (ks.getD i 0)) := ck
      clear ck
      obtain ⟨k, hkk⟩ : ∃ k, k = ks.getD i 0 := ⟨_, rfl⟩
      replace hkd : Hid (ks.getD i 0 = k) := hkk.symm
      rw [← hkk] at ck' Smk hq2 HS kin
      clear hkk
      go_upto_region 5 with fail
      refine wp_region_held_drew (S := fun w' => w'.cell? ⟨g, 0, none⟩ = some (.map (some mb)) ∧ (Instr.lookup 24 (.map (some mb)) (.int .i64 k) false).run Try.prog w' = .ok (.pointer (some ⟨g2, 0, none⟩)) w') (by kernel_rfl) (HS.out _ (fun x _ => rfl)) (fun hHeld => ?_)
      have Ad : IOwn wr.drew 0 rv p.length p := hO2
      have Jd : J (acc ++ here S.vl p ++ out) I2 wr.drew := HV.keep _ _ _ _ hJ2 (fun x _ => rfl)
      have Fd : Far rv W I wr.drew I2 := hF2.drew
      have Kd : IArg wr.drew (some ⟨kb, ko, none⟩) ks.length ca ks := hK2.below (Below.refl _ _).drew
      have HSd : Hid (∀ W2 : World, (∀ x, S.has x → W2.heap[x]? = wr.drew.heap[x]?) → W2.cell? ⟨g, 0, none⟩ = some (.map (some mb)) ∧ (Instr.lookup 24 (.map (some mb)) (.int .i64 k) false).run Try.prog W2 = .ok (.pointer (some ⟨g2, 0, none⟩)) W2) := HS
      have Td : Hid (TI wr.drew B tb S NB cnt) := hT2.out.same (fun _ _ _ => rfl) (fun _ _ _ => rfl)
      have hkw : ∀ b o, (some ⟨kb, ko, none⟩ : Option Addr) = some ⟨b, o, none⟩ → ¬ I2 b ∧ b < wr.drew.heap.size ∧ rv.ownBlock ≠ some b := hkb
      clear hO2 hJ2 hF2 HS hT2 hK2 hkb
      generalize hwd : wr.drew = wd at *
      clear hwd
      refine wpAnyH_take (i := 0) (v := (.pointer (some ⟨g, 0, none⟩))) rfl (by kernel_rfl) (by kernel_rfl) (by kernel_rfl) (fun _ _ _ h => h) (Or.inl ⟨by rfl, ?_⟩) (by assumption) ?_
      · intro w' hSw
        go_simp
      simp only [List.getElem_toArray, List.getElem_cons_zero, Act.put, List.setIfInBounds_toArray, List.set_cons_zero, List.set_cons_succ]
      refine wpAnyH_take (i := 1) (v := (.pointer (some ⟨g, 0, none⟩))) rfl (by kernel_rfl) (by kernel_rfl) (by kernel_rfl) (fun _ _ _ h => h) (Or.inl ⟨by rfl, ?_⟩) (by assumption) ?_
      · intro w' hSw
        go_simp
      simp only [List.getElem_toArray, List.getElem_cons_succ, List.getElem_cons_zero, Act.put, List.setIfInBounds_toArray, List.set_cons_zero, List.set_cons_succ]
      refine wpAnyH_take (i := 2) (v := (.pointer (some ⟨g, 0, none⟩))) rfl (by kernel_rfl) (by kernel_rfl) (by kernel_rfl) (fun _ _ _ h => h) (Or.inl ⟨by rfl, ?_⟩) (by assumption) ?_
      · intro w' hSw
        go_simp
      simp only [List.getElem_toArray, List.getElem_cons_succ, List.getElem_cons_zero, Act.put, List.setIfInBounds_toArray, List.set_cons_zero, List.set_cons_succ]
      refine wpAnyH_take (i := 3) (v := (.map (some mb))) rfl (by kernel_rfl) (by kernel_rfl) (by kernel_rfl) (fun _ _ _ h => h) (Or.inl ⟨by rfl, ?_⟩) (by assumption) ?_
      · intro w' hSw
        have y0 := hSw.1
        go_simp
      simp only [List.getElem_toArray, List.getElem_cons_succ, List.getElem_cons_zero, Act.put, List.setIfInBounds_toArray, List.set_cons_zero, List.set_cons_succ]
      refine wpAnyH_take (i := 4) (v := (.int .i64 k)) rfl (by kernel_rfl) (by kernel_rfl) (by kernel_rfl) (fun _ _ _ h => h) (Or.inl ⟨by rfl, ?_⟩) (by assumption) ?_
      · intro w' hSw
        go_simp
      simp only [List.getElem_toArray, List.getElem_cons_succ, List.getElem_cons_zero, Act.put, List.setIfInBounds_toArray, List.set_cons_zero, List.set_cons_succ]
      refine wpAnyH_take (i := 5) (v := (.pointer (some ⟨g2, 0, none⟩))) rfl (by kernel_rfl) (by kernel_rfl) (by kernel_rfl) (fun _ _ _ h => h) (Or.inl ⟨by rfl, ?_⟩) (by assumption) ?_
      · intro w' hSw
        have y1 := hSw.2
        go_simp
      simp only [List.getElem_toArray, List.getElem_cons_succ, List.getElem_cons_zero, Act.put, List.setIfInBounds_toArray, List.set_cons_zero, List.set_cons_succ]
      refine wpAnyH_take (i := 6) (v := rv) rfl (by kernel_rfl) (by kernel_rfl) (by kernel_rfl) (fun _ _ _ h => h) (Or.inl ⟨by rfl, ?_⟩) (by assumption) ?_
      · intro w' hSw
        go_simp
      simp only [List.getElem_toArray, List.getElem_cons_succ, List.getElem_cons_zero, Act.put, List.setIfInBounds_toArray, List.set_cons_zero, List.set_cons_succ]
      refine wpAnyH_take (i := 7) (v := (.int .i64 k)) rfl (by kernel_rfl) (by kernel_rfl) (by kernel_rfl) (fun _ _ _ h => h) (Or.inl ⟨by rfl, ?_⟩) (by assumption) ?_
      · intro w' hSw
        go_simp
      simp only [List.getElem_toArray, List.getElem_cons_succ, List.getElem_cons_zero, Act.put, List.setIfInBounds_toArray, List.set_cons_zero, List.set_cons_succ]
      refine wpAnyH_take (i := 10) (v := (.func (.func 28) #[] #[c, c2])) rfl (by kernel_rfl) (by kernel_rfl) (by kernel_rfl) (fun _ _ _ h => h) (Or.inl ⟨by rfl, ?_⟩) (by assumption) ?_
      · intro w' hSw
        go_simp
      simp only [List.getElem_toArray, List.getElem_cons_succ, List.getElem_cons_zero, Act.put, List.setIfInBounds_toArray, List.set_cons_zero, List.set_cons_succ]
      refine wpAnyH_ready (rs := [8]) (by kernel_rfl) (by simp) ?_
      refine AllReadyH.cons rfl (fun Kc hKc => ?_) AllReadyH.nil
      simp only [List.getElem_toArray, List.getElem_cons_succ, List.getElem_cons_zero]
      rw [if_pos (by rfl)]
      go_wp2_with fail
      have BA : Below wd.heap.size wd (wd.alloc (.cells #[.int .i64 k] 3)) := (Below.refl _ _).alloc (Nat.le_refl _) _
      have xk : (wd.alloc (.cells #[.int .i64 k] 3)).cell? ⟨wd.heap.size, 0, none⟩ = some (.int .i64 k) := (by rw [World.cell?_alloc_at _ _ _ _ (by simp)]; rfl)
      have FA := Far.below rv I2 BA
      have OA : IOwn (wd.alloc (.cells #[.int .i64 k] 3)) 0 rv p.length p := IOwn.keep Ad (fun x hx => BA.block x (World.ownsRow.lt Ad x hx).2)
      have JA := HV.keep _ _ _ (wd.alloc (.cells #[.int .i64 k] 3)) Jd (fun x hx => BA.block x (HV.low _ _ _ x Jd hx))
      have KA := Kd.below BA
      have SA := HSd.out (wd.alloc (.cells #[.int .i64 k] 3)) (fun x hx => BA.block x (Td.out.has_lt hx))
      have zA := BA.size
      generalize hwA : wd.alloc (.cells #[.int .i64 k] 3) = wA at *
      clear hwA
      refine hKc.out _ _ SA (fun hHeld => ?_)
      clear hKc Kc
      refine wpAnyH_ready (rs := [9]) (by kernel_rfl) (by simp) ?_
      refine AllReadyH.cons rfl (fun Kc hKc => ?_) AllReadyH.nil
      simp only [List.getElem_toArray, List.getElem_cons_succ, List.getElem_cons_zero]
      rw [if_pos (by rfl)]
      refine wp_app _ _ rfl rv p.length p k rfl OA wd.heap.size rfl xk (by omega) ?_
      intro v5 w5 O5 y5 k5 b5 K5
      have z5 := y5.size
      have FB : Far rv wd I2 w5 I2 := ⟨FA.b0.trans y5, fun x hx => Or.inl hx, fun x hx h1 h2 => (k5 x (Nat.lt_of_lt_of_le hx zA) h2).trans (FA.kept x hx h1 h2)⟩
      have RI : ∀ x, rv.ownBlock = some x → ¬ I2 x ∧ ¬ S.has x := fun x hx => ⟨fun h => by rcases Fd.mine x h with a | a; exact (hrv.out x hx).1 a; have := hlow.out x hx; omega, (hrv.out x hx).2⟩
      have J5 := HV.keep _ _ _ w5 JA (fun x hx => k5 x (HV.low _ _ _ x JA hx) (fun e => (RI x e).1 hx))
      have H5 : ∀ x, S.has x → w5.heap[x]? = wd.heap[x]? := fun x hx => FB.kept x (Td.out.has_lt hx) (fun h => by rcases Fd.mine x h with a | a; exact hSI.out x hx a; have := hTl.out x hx; omega) (fun e => (RI x e).2 hx)
      have S5 := HSd.out w5 H5
      have T5 : TI w5 B tb S NB cnt := Td.out.same (fun p g hp => H5 g (Or.inl ⟨p, hp⟩)) (fun p g hp => H5 g (Or.inr ⟨p, hp⟩))
      have R5 : ∀ x, v5.ownBlock = some x → ¬ I2 x ∧ ¬ S.has x := fun x hx => (by rcases b5 x hx with a | a; exact RI x a; exact ⟨fun h => (by have := HV.low _ _ _ x Jd h; omega), fun h => (by have := Td.out.has_lt h; omega)⟩)
      have I5 : ∀ x, S.has x → ¬ I2 x := fun x hx h => by rcases Fd.mine x h with a | a; exact hSI.out x hx a; have := hTl.out x hx; omega
      have el : (p ++ [k]).length = p.length + 1 := by simp
      have CW := IH.out (p ++ [k]) g2 v5 w5 (acc ++ here S.vl p ++ out) I2 (by rw [el]; omega) T5 hq2.out (by rw [el]; exact O5) Smk.out R5 I5 J5 (by rw [← hkd.out]; exact rows_new hacc.out hks.out hlt hR2)
      refine hKc.out _ _ S5 (fun hHeld => ?_)
      clear hKc Kc
      refine wpAnyH_ready (rs := [11]) (by kernel_rfl) (by simp) ?_
      refine AllReadyH.cons rfl (fun Kc hKc => ?_) AllReadyH.nil
      simp only [List.getElem_toArray, List.getElem_cons_succ, List.getElem_cons_zero]
      rw [if_pos (by rfl)]
      go_wp2_with fail
      refine CW.mono ?_
      clear CW
      rintro e w6 ⟨rfl, I3, o2, J6, Q6, O6, F6⟩
      rw [el] at O6
      have FC : Far rv wd I2 w6 I3 := ⟨FB.b0.trans F6.b0, fun x hx => by rcases F6.mine x hx with a | a; exact Or.inl a; exact Or.inr (Nat.le_trans FB.size a), fun x hx h1 h2 => (F6.kept x (Nat.lt_of_lt_of_le hx FB.size) h1 (fun e => by rcases b5 x e with a | a; exact h2 a; omega)).trans (FB.kept x hx h1 h2)⟩
      have H6 : ∀ x, S.has x → w6.heap[x]? = wd.heap[x]? := fun x hx => FC.kept x (Td.out.has_lt hx) (I5 x hx) (fun e => (RI x e).2 hx)
      have O7 : IOwn w6 0 rv p.length p := K5 w6 O6 (fun x h1 h2 => F6.kept x (World.ownsRow.lt (show IOwn w5 0 rv p.length p from K5 w5 O5 (fun _ _ _ => rfl)) x h1).2 (RI x h1).1 h2)
      have F7 := Fd.trans FC
      have K7 : IArg w6 (some ⟨kb, ko, none⟩) ks.length ca ks := Kd.keep (fun b o e => FC.kept b (hkw b o e).2.1 (hkw b o e).1 (hkw b o e).2.2)
      have kb7 : ∀ b o, (some ⟨kb, ko, none⟩ : Option Addr) = some ⟨b, o, none⟩ → ¬ I3 b ∧ b < w6.heap.size ∧ rv.ownBlock ≠ some b := fun b o e => ⟨fun h => (by rcases FC.mine b h with a | a; exact (hkw b o e).1 a; have := (hkw b o e).2.1; omega), Nat.lt_of_lt_of_le (hkw b o e).2.1 FC.size, (hkw b o e).2.2⟩
      have Q7 : RowsTo S.vl p ks (i + 1) (out ++ o2) := rowsTo_step hks.out hlt hR2 (by rw [hkd.out]; exact Q6)
      rw [List.append_assoc (acc ++ here S.vl p)] at J6
      refine hKc.out _ _ (HSd.out w6 H6) (fun hHeld => ?_)
      clear hKc Kc
      refine wpAnyH_done (by kernel_rfl) ?_ _
      clear hHeld
      go_wp2_with fail
      go_roundg (ks.length - (i + 1))
      case measure => omega
      case rel => exact ⟨i + 1, I3, out ++ o2, by omega, rfl, by go_num, J6, Q7, O7, F7, K7, kb7⟩
end Go.Proofs.Ytomfkdaaimhmkaa
