/- TrieOrder's walk: in whatever order rows are put, the same rows are there. -/
import Derived.Test.YtomfkdaaimhmkaaTOrder
namespace Go.Proofs.Ytomfkdaaimhmkaa
open Go.ChangeShapes Go.WideShapes Go.ChangeAt Go.RowKit Go.Maps
theorem lit2_vals (w : World) : ∀ j u, ([1, 2].map (Value.int .i64))[j]? = some u → (w.alloc (.cells #[.int .i64 1, .int .i64 2] 3)).cell? ((⟨w.heap.size, 0, none⟩ : Addr).add j) = some u := fun j u hj => by
  match j, hj with
  | 0, hj =>
    simp at hj; subst hj
    have e2 : (Addr.mk w.heap.size 0 none).add 0 = ⟨w.heap.size, 0, none⟩ := by simp [Addr.add]
    rw [e2, World.cell?_alloc_at _ _ _ _ (by simp)]; rfl
  | 1, hj =>
    simp at hj; subst hj
    have e2 : (Addr.mk w.heap.size 0 none).add 1 = ⟨w.heap.size, 1, none⟩ := by simp [Addr.add]
    rw [e2, World.cell?_alloc_at _ _ _ _ (by simp)]; rfl
theorem wrapI (x : Int) (h : -9223372036854775808 ≤ x ∧ x ≤ 9223372036854775807) : IntKind.i64.wrap x = x := by
  unfold IntKind.wrap; simp [IntKind.bits, IntKind.signed]; omega
set_option maxRecDepth 100000 in
set_option maxHeartbeats 16000000 in
theorem trieOrder_walk (a0 : Option Addr) (n0 c0 : Nat) (Z0 : GZ) (w : World) (G0 : GridI w a0 n0 Z0.A Z0.L Z0.C Z0.Z) :
   Calls Try.prog 4 #[.slice a0 n0 c0] w fun e w' => e = .returned (.bool true) ∧ Below w.heap.size w w' := by
  have hm0 := G0.max
  obtain ⟨Sa0, Sb0, T0⟩ := duo_new w
  obtain ⟨B1, hB1⟩ : ∃ B1, B1 = w.heap.size + 1 + 1 := ⟨_, rfl⟩
  have R0 : RW (((w.alloc Z28).alloc Z28).alloc (.cells #[] 23)) B1 (.slice (some ⟨w.heap.size + 1 + 1, 0, none⟩) 0 0) [] := by
    have e : ((w.alloc Z28).alloc Z28).heap.size = w.heap.size + 1 + 1 := by simp
    have h := World.ownsRow_made ((w.alloc Z28).alloc Z28) (base := B1) (e := 23) (size := 1) #[] 0 (by rw [e, hB1]; exact Nat.le_refl _) (by decide) rfl
    rw [e] at h
    exact ⟨h, fun r hr => (by cases hr), fun r hr => (by cases hr), fun r hr => (by cases hr), fun r hr => (by cases hr)⟩
  have D0 := T0.below (below_alloc _ (.cells #[] 23))
  have la0 : Hid (∀ x, Sa0.has x → x < B1) := fun x hx => by have := T0.a.has_lt hx; simp at this; omega
  have lb0 : Hid (∀ x, Sb0.has x → x < B1) := fun x hx => by have := T0.b.has_lt hx; simp at this; omega
  have zB : B1 ≤ (((w.alloc Z28).alloc Z28).alloc (.cells #[] 23)).heap.size := by simp; omega
  clear T0
  have hB1' : Hid (B1 = w.heap.size + 1 + 1) := hB1
  clear hB1
  go_enter Try.func4, Try.ntmps4
  go_wp2_with fail
  generalize hw1 : ((w.alloc Z28).alloc Z28).alloc (.cells #[] 23) = w1 at *
  clear hw1
  go_loopg [5, 6] n0 (fun r s5 s6 wr => ∃ (i gl cl : Nat) (R : List RR), i ≤ n0 ∧ i ≤ 30 ∧ r = n0 - i ∧ s6 = .int .i64 (i : Int) ∧ R.length = i ∧ s5 = .slice (some ⟨gl, 0, none⟩) R.length cl ∧ RW wr B1 (.slice (some ⟨gl, 0, none⟩) R.length cl) R ∧ Duo w wr Sa0 Sb0 (fun _ => none) (fun _ => none) 0 0 0 ∧ B1 ≤ wr.heap.size)
  case atStart => exact ⟨0, w.heap.size + 1 + 1, 0, [], by omega, by omega, by omega, rfl, rfl, rfl, R0, D0, zB⟩
  case round =>
    clear R0 D0 zB
    obtain ⟨i, gl, cl, R, hi, hi30, rfl, rfl, hRl, rfl, RR0, DD, zB⟩ := hrel
    by_cases hgo : i < n0 ∧ i < 30
    case pos =>
      obtain ⟨hl1, hl2⟩ := hgo
      obtain ⟨b, o, rfl, hcl⟩ := G0.cells (by omega)
      obtain ⟨h1, hI'⟩ := hcl i hl1
      have hlt : b < w.heap.size := by simpa using World.block_lt_of_cell? w _ h1
      have h2 : wr.cell? ⟨b, o + i, none⟩ = some (.slice (Z0.A i) (Z0.L i) (Z0.C i)) := by rw [DD.bel.cell (by exact hlt)]; exact h1
      have F := few8_any _ _ _ _ 140 wr (hI'.below DD.bel) (by omega)
      have hs : Hid (Sm ((Z0.Z i).take 140)) := hI'.take_small 140
      have hZl : ((Z0.Z i).take 140).length ≤ 140 := by rw [List.length_take]; omega
      have HD : Hid (Duo w wr Sa0 Sb0 (fun _ => none) (fun _ => none) 0 0 0) := DD
      have HR : Hid (RW wr B1 (.slice (some ⟨gl, 0, none⟩) R.length cl) R) := RR0
      have HRl : Hid (R.length = i) := hRl
      clear hcl h1 hI' G0 DD RR0 hRl
      generalize ((Z0.Z i).take 140) = Y at *
      generalize Z0.A i = ad at *
      generalize Z0.L i = ln at *
      generalize Z0.C i = cp0 at *
      have hR100 : R.length ≤ 100 := by have := HRl.out; omega
      go_wp2_with (first
        | (go_at_call 7; refine F.mono ?_; clear F; rintro e w2 ⟨b2, cp, rfl, O2, B2⟩; have zz2 := B2.size; have BX := below_alloc w2 (.cells #[.slice (some ⟨b2, 0, none⟩) Y.length cp] 23); have RX := (HR.out.below B2).below BX; have OX := (show IOwn w2 B1 (.slice (some ⟨b2, 0, none⟩) Y.length cp) Y.length Y from ownsRow_mono O2 zB).keep (fun x hx => BX.block x (World.ownsRow.lt O2 x hx).2); have DX := (HD.out.below B2).below BX; have cX : (w2.alloc (.cells #[.slice (some ⟨b2, 0, none⟩) Y.length cp] 23)).cell? ⟨w2.heap.size, 0, none⟩ = some (.slice (some ⟨b2, 0, none⟩) Y.length cp) := (by rw [World.cell?_alloc_at _ _ _ _ (by simp)]; rfl); have zX : B1 ≤ (w2.alloc (.cells #[.slice (some ⟨b2, 0, none⟩) Y.length cp] 23)).heap.size := (by simp; omega))
        | (at_builtin; refine wp_appR rfl _ _ rfl (.slice (some ⟨gl, 0, none⟩) R.length cl) R Y b2 cp B1 rfl RX w2.heap.size rfl cX OX hs.out hZl hR100 zX ?_; intro g4 c4 w4 R4 B4 K4))
      have D4 : Duo w w4 Sa0 Sb0 (fun _ => none) (fun _ => none) 0 0 0 := ⟨DX.a.keep (fun x hx => B4.block x (la0.out x hx)), DX.b.keep (fun x hx => B4.block x (lb0.out x hx)), DX.ap, DX.bel.trans (B4.mono (by have := hB1'.out; omega))⟩
      have z4 : B1 ≤ w4.heap.size := Nat.le_trans zX B4.size
      have el4 : (R ++ [((.slice (some ⟨b2, 0, none⟩) Y.length cp : Value), Y)]).length = R.length + 1 := by simp
      go_roundg (n0 - (i + 1))
      case measure => omega
      case rel => exact ⟨i + 1, g4, c4, R ++ [(.slice (some ⟨b2, 0, none⟩) Y.length cp, Y)], by omega, by omega, rfl, by go_num, by rw [el4, HRl.out], by rw [el4], by rw [el4]; exact R4, D4, z4⟩
    case neg =>
      have hx : n0 ≤ i ∨ (i < n0 ∧ 30 ≤ i) := by omega
      have nA0 : Hid (∀ x, rin (.slice (some ⟨gl, 0, none⟩) R.length cl) R x → ¬ Sa0.has x) := fun x hx h => by have := (RR0.lt hx).1; have := la0.out x h; omega
      have nB0 : Hid (∀ x, rin (.slice (some ⟨gl, 0, none⟩) R.length cl) R x → ¬ Sb0.has x) := fun x hx h => by have := (RR0.lt hx).1; have := lb0.out x h; omega
      have hR30 : R.length ≤ 30 := by omega
      have D1 : Duo w wr Sa0 Sb0 (wantV ((R.map (·.2)).take 0)) (wantV ((R.map (·.2)).drop (R.length - 0))) (280 * 0) 0 0 := by
        rw [List.take_zero, Nat.sub_zero, List.drop_of_length_le (by rw [List.length_map]; exact Nat.le_refl _), wantV_nil]; exact DD
      have HR1 : Hid (RW wr B1 (.slice (some ⟨gl, 0, none⟩) R.length cl) R) := RR0
      have HD1 : Hid (Duo w wr Sa0 Sb0 (wantV ((R.map (·.2)).take 0)) (wantV ((R.map (·.2)).drop (R.length - 0))) (280 * 0) 0 0) := D1
      clear DD RR0 D1 la0 lb0 G0 hgo zB hRl
      go_upto_region 4 with fail
      go_cut [26] from 19 to 26 (fun s26 wc => s26 = .bool false ∧ wc = wr)
      case first =>
        rcases hx with hx | ⟨hx, hx2⟩
        · go_wp2_with fail
          go_meet
          case rel => exact ⟨rfl, rfl⟩
        · go_wp2_with fail
          go_meet
          case rel => exact ⟨congrArg Value.bool (decide_eq_false (by omega)), rfl⟩
      case rest =>
        obtain ⟨rfl, hwc⟩ := hcut
        replace hwc := hwc.symm
        subst hwc
        go_wp2_with fail
        go_loopg [39] R.length (fun r s39 wr => ∃ (i : Nat) (Sa Sb : TS) (cc dd : Nat), i ≤ R.length ∧ r = R.length - i ∧ s39 = .int .i64 (i : Int) ∧ cc ≤ i ∧ dd ≤ i ∧ RW wr B1 (.slice (some ⟨gl, 0, none⟩) R.length cl) R ∧ Duo w wr Sa Sb (wantV ((R.map (·.2)).take i)) (wantV ((R.map (·.2)).drop (R.length - i))) (280 * i) cc dd ∧ Hid (∀ x, rin (.slice (some ⟨gl, 0, none⟩) R.length cl) R x → ¬ Sa.has x) ∧ Hid (∀ x, rin (.slice (some ⟨gl, 0, none⟩) R.length cl) R x → ¬ Sb.has x))
        case atStart => exact ⟨0, Sa0, Sb0, 0, 0, by omega, by omega, rfl, by omega, by omega, HR1.out, HD1.out, nA0, nB0⟩
        case round =>
          clear HR1 HD1 nA0 nB0
          obtain ⟨i, Sa, Sb, cc, dd, hi2, rfl, rfl, hcc, hdd, RR0, DD, nA, nB⟩ := hrel
          by_cases hlt : i < R.length
          case pos =>
            have ck0 := RR0.cells (t := i) hlt
            obtain ⟨rr, hrr⟩ : ∃ rr, rr = R[i] := ⟨_, rfl⟩
            have hmem0 : R[i] ∈ R := List.getElem_mem hlt
            rw [← hrr] at ck0 hmem0
            obtain ⟨b, c, es⟩ := RR0.fm _ hmem0
            have hle := RR0.le _ hmem0
            obtain ⟨A, hAe⟩ : ∃ A, A = rr.2 := ⟨_, rfl⟩
            rw [← hAe] at es hle
            obtain ⟨n, hne⟩ : ∃ n, n = A.length := ⟨_, rfl⟩
            rw [← hne] at es hle
            rw [es] at ck0
            have hmem : Hid (((.slice (some ⟨b, 0, none⟩) n c : Value), A) ∈ R) := (by show _ ∈ R; rw [← es, hAe]; exact hmem0)
            have hat : Hid (R[i].1 = .slice (some ⟨b, 0, none⟩) n c) := (by show _ = _; rw [← hrr]; exact es)
            have hA2 : Hid (R[i].2 = A) := (by show _ = _; rw [← hrr, hAe])
            have hn : Hid (n = A.length) := hne
            have ck := ck0
            clear ck0 es hmem0 hrr hne hAe rr
            have hV : Hid (∀ N', putV (wantV ((R.map (·.2)).take i)) A (n : Int) = N' → N' = wantV ((R.map (·.2)).take (i + 1))) := fun N' h => (by rw [← h, hn.out]; exact wantV_put (fun q => by rw [List.take_succ_eq_append_getElem (by rw [List.length_map]; exact hlt), List.mem_append, List.mem_singleton, List.getElem_map, hA2.out]))
            obtain ⟨va, hva⟩ : ∃ va, va = wantV ((R.map (·.2)).take i) := ⟨_, rfl⟩
            obtain ⟨vb, hvb⟩ : ∃ vb, vb = wantV ((R.map (·.2)).drop (R.length - i)) := ⟨_, rfl⟩
            obtain ⟨N, hN⟩ : ∃ N, N = 280 * i := ⟨_, rfl⟩
            rw [← hva, ← hvb, ← hN] at DD
            rw [← hva] at hV
            have hvb' : Hid (vb = wantV ((R.map (·.2)).drop (R.length - i))) := hvb
            have hNN : N ≤ 8400 := by omega
            have hN' : Hid (N = 280 * i) := hN
            clear hva hvb hN
            go_upto_region 10 with fail
            refine wp_region_held_drew (S := fun w' => w'.cell? ⟨gl, i, none⟩ = some (.slice (some ⟨b, 0, none⟩) n c)) (by kernel_rfl) (ck) (fun hHeld => ?_)
            have Dd : Duo w wr.drew Sa Sb va vb N cc dd := DD.below (Below.refl _ _).drew
            have Rd : RW wr.drew B1 (.slice (some ⟨gl, 0, none⟩) R.length cl) R := RR0.below (Below.refl _ _).drew
            clear DD RR0
            generalize hwd : wr.drew = wd at *
            clear hwd
            refine wpAnyH_take (i := 0) (v := (.slice (some ⟨gl, 0, none⟩) R.length cl)) rfl (by kernel_rfl) (by kernel_rfl) (by kernel_rfl) (fun _ _ _ h => h) (Or.inl ⟨by rfl, ?_⟩) (by assumption) ?_
            · intro w' hSw
              go_simp
            simp only [List.getElem_toArray, List.getElem_cons_zero, Act.put, List.setIfInBounds_toArray, List.set_cons_zero, List.set_cons_succ]
            refine wpAnyH_take (i := 1) (v := (.int .i64 (i : Int))) rfl (by kernel_rfl) (by kernel_rfl) (by kernel_rfl) (fun _ _ _ h => h) (Or.inl ⟨by rfl, ?_⟩) (by assumption) ?_
            · intro w' hSw
              go_simp
            simp only [List.getElem_toArray, List.getElem_cons_succ, List.getElem_cons_zero, Act.put, List.setIfInBounds_toArray, List.set_cons_zero, List.set_cons_succ]
            refine wpAnyH_take (i := 2) (v := (.pointer (some ⟨gl, i, none⟩))) rfl (by kernel_rfl) (by kernel_rfl) (by kernel_rfl) (fun _ _ _ h => h) (Or.inl ⟨by rfl, ?_⟩) (by assumption) ?_
            · intro w' hSw
              go_simp
            simp only [List.getElem_toArray, List.getElem_cons_succ, List.getElem_cons_zero, Act.put, List.setIfInBounds_toArray, List.set_cons_zero, List.set_cons_succ]
            refine wpAnyH_take (i := 3) (v := (.slice (some ⟨b, 0, none⟩) n c)) rfl (by kernel_rfl) (by kernel_rfl) (by kernel_rfl) (fun _ _ _ h => h) (Or.inl ⟨by rfl, ?_⟩) (by assumption) ?_
            · intro w' hSw
              have y0 := hSw
              go_simp
            simp only [List.getElem_toArray, List.getElem_cons_succ, List.getElem_cons_zero, Act.put, List.setIfInBounds_toArray, List.set_cons_zero, List.set_cons_succ]
            refine wpAnyH_take (i := 4) (v := (.slice (some ⟨gl, 0, none⟩) R.length cl)) rfl (by kernel_rfl) (by kernel_rfl) (by kernel_rfl) (fun _ _ _ h => h) (Or.inl ⟨by rfl, ?_⟩) (by assumption) ?_
            · intro w' hSw
              go_simp
            simp only [List.getElem_toArray, List.getElem_cons_succ, List.getElem_cons_zero, Act.put, List.setIfInBounds_toArray, List.set_cons_zero, List.set_cons_succ]
            refine wpAnyH_take (i := 5) (v := (.int .i64 (i : Int))) rfl (by kernel_rfl) (by kernel_rfl) (by kernel_rfl) (fun _ _ _ h => h) (Or.inl ⟨by rfl, ?_⟩) (by assumption) ?_
            · intro w' hSw
              go_simp
            simp only [List.getElem_toArray, List.getElem_cons_succ, List.getElem_cons_zero, Act.put, List.setIfInBounds_toArray, List.set_cons_zero, List.set_cons_succ]
            refine wpAnyH_take (i := 6) (v := (.pointer (some ⟨gl, i, none⟩))) rfl (by kernel_rfl) (by kernel_rfl) (by kernel_rfl) (fun _ _ _ h => h) (Or.inl ⟨by rfl, ?_⟩) (by assumption) ?_
            · intro w' hSw
              go_simp
            simp only [List.getElem_toArray, List.getElem_cons_succ, List.getElem_cons_zero, Act.put, List.setIfInBounds_toArray, List.set_cons_zero, List.set_cons_succ]
            refine wpAnyH_take (i := 7) (v := (.slice (some ⟨b, 0, none⟩) n c)) rfl (by kernel_rfl) (by kernel_rfl) (by kernel_rfl) (fun _ _ _ h => h) (Or.inl ⟨by rfl, ?_⟩) (by assumption) ?_
            · intro w' hSw
              have y0 := hSw
              go_simp
            simp only [List.getElem_toArray, List.getElem_cons_succ, List.getElem_cons_zero, Act.put, List.setIfInBounds_toArray, List.set_cons_zero, List.set_cons_succ]
            refine wpAnyH_take (i := 8) (v := (.int .i64 (n : Int))) rfl (by kernel_rfl) (by kernel_rfl) (by kernel_rfl) (fun _ _ _ h => h) (Or.inl ⟨by rfl, ?_⟩) (by assumption) ?_
            · intro w' hSw
              go_simp
            simp only [List.getElem_toArray, List.getElem_cons_succ, List.getElem_cons_zero, Act.put, List.setIfInBounds_toArray, List.set_cons_zero, List.set_cons_succ]
            have TKd : Tk wd (some ⟨b, 0, none⟩) n A := (by have h : IOwn wd B1 (.slice (some ⟨b, 0, none⟩) n c) A.length A := Rd.own _ hmem.out; rw [← hn.out] at h; exact h.tk (Rd.sm _ hmem.out) (by omega))
            have FSd : 1 ≤ n → ∀ b' o, (some ⟨b, 0, none⟩ : Option Addr) = some ⟨b', o, none⟩ → wd.cell? ⟨b', 0, none⟩ = some (.int .i64 (A.getD 0 0)) := (by have h : IOwn wd B1 (.slice (some ⟨b, 0, none⟩) n c) A.length A := Rd.own _ hmem.out; rw [← hn.out] at h; exact fun h1 => h.first (Rd.sm _ hmem.out) h1)
            have P := put_some c b n A (n : Int) wd _ _ _ _ _ _ Dd.a TKd FSd (by omega) (by omega) (by omega)
            clear TKd FSd
            refine wpAnyH_ready (rs := [9]) (by kernel_rfl) (by simp) ?_
            refine AllReadyH.cons rfl (fun Kc hKc => ?_) AllReadyH.nil
            simp only [List.getElem_toArray, List.getElem_cons_succ, List.getElem_cons_zero]
            rw [if_pos (by rfl)]
            go_wp2_with fail
            refine P.mono ?_
            clear P
            rintro e w3 ⟨⟨x3, rfl⟩, ⟨c3, S3, hc3, T3, O3⟩, B3⟩
            have D3 := Dd.putA T3 O3 B3 (by omega)
            obtain ⟨R3, n3⟩ := Rd.beside (S := Sa) nA.out O3
            have ck3 : w3.cell? ⟨gl, i, none⟩ = some (.slice (some ⟨b, 0, none⟩) n c) := (by have h := R3.cells (t := i) hlt; rw [hat.out] at h; exact h)
            clear Dd Rd T3 O3 B3
            go_wp2_with fail
            refine hKc.out _ _ (ck3) (fun hHeld => ?_)
            clear hKc Kc
            refine wpAnyH_done (by kernel_rfl) ?_ _
            clear hHeld ck3
            have D3' : Duo w w3 S3 Sb (wantV ((R.map (·.2)).take (i + 1))) vb (N + 140) c3 dd := (by have h := D3; rw [hV.out _ rfl] at h; exact h)
            clear D3 hV hmem hat hA2 hn hle ck
            go_upto_region 11 with fail
            have n3' : Hid (∀ x, rin (.slice (some ⟨gl, 0, none⟩) R.length cl) R x → ¬ S3.has x) := n3
            clear n3
            obtain ⟨RR0, DD, Sa2, nA2⟩ : RW w3 B1 (.slice (some ⟨gl, 0, none⟩) R.length cl) R ∧ Duo w w3 S3 Sb (wantV ((R.map (·.2)).take (i + 1))) vb (N + 140) c3 dd ∧ True ∧ True := ⟨R3, D3', trivial, trivial⟩
            clear R3 D3' Sa2 nA2 nA
            obtain ⟨j, hj⟩ : ∃ j : Nat, j = R.length - 1 - i := ⟨_, rfl⟩
            have hltj : j < R.length := by omega
            have hjn : (R.length : Int) - 1 - (i : Int) = (j : Int) := by omega
            have ck0 := RR0.cells (t := j) hltj
            obtain ⟨rr, hrr⟩ : ∃ rr, rr = R[j] := ⟨_, rfl⟩
            have hmem0 : R[j] ∈ R := List.getElem_mem hltj
            rw [← hrr] at ck0 hmem0
            obtain ⟨b, c, es⟩ := RR0.fm _ hmem0
            have hle := RR0.le _ hmem0
            obtain ⟨A, hAe⟩ : ∃ A, A = rr.2 := ⟨_, rfl⟩
            rw [← hAe] at es hle
            obtain ⟨n, hne⟩ : ∃ n, n = A.length := ⟨_, rfl⟩
            rw [← hne] at es hle
            rw [es] at ck0
            have hmem : Hid (((.slice (some ⟨b, 0, none⟩) n c : Value), A) ∈ R) := (by show _ ∈ R; rw [← es, hAe]; exact hmem0)
            have hat : Hid (R[j].1 = .slice (some ⟨b, 0, none⟩) n c) := (by show _ = _; rw [← hrr]; exact es)
            have hA2 : Hid (R[j].2 = A) := (by show _ = _; rw [← hrr, hAe])
            have hn : Hid (n = A.length) := hne
            have ck := ck0
            clear ck0 es hmem0 hrr hne hAe rr
            have hV : Hid (∀ N', putV vb A (n : Int) = N' → N' = wantV ((R.map (·.2)).drop (R.length - (i + 1)))) := fun N' h => (by rw [← h, hn.out, hvb'.out]; exact wantV_put (fun q => by rw [show R.length - (i + 1) = j by omega, List.drop_eq_getElem_cons (by rw [List.length_map]; exact hltj), List.mem_cons, List.getElem_map, hA2.out, show j + 1 = R.length - i by omega]; exact Or.comm))
            have hjE : Hid (j = R.length - 1 - i) := hj
            clear hj
            refine wp_region_held_drew (S := fun w' => w'.cell? ⟨gl, j, none⟩ = some (.slice (some ⟨b, 0, none⟩) n c)) (by kernel_rfl) (ck) (fun hHeld => ?_)
            have Dd : Duo w w3.drew S3 Sb (wantV ((R.map (·.2)).take (i + 1))) vb (N + 140) c3 dd := DD.below (Below.refl _ _).drew
            have Rd : RW w3.drew B1 (.slice (some ⟨gl, 0, none⟩) R.length cl) R := RR0.below (Below.refl _ _).drew
            clear DD RR0
            generalize hwd : w3.drew = wd at *
            clear hwd
            refine wpAnyH_take (i := 0) (v := (.slice (some ⟨gl, 0, none⟩) R.length cl)) rfl (by kernel_rfl) (by kernel_rfl) (by kernel_rfl) (fun _ _ _ h => h) (Or.inl ⟨by rfl, ?_⟩) (by assumption) ?_
            · intro w' hSw
              go_simp
            simp only [List.getElem_toArray, List.getElem_cons_zero, Act.put, List.setIfInBounds_toArray, List.set_cons_zero, List.set_cons_succ]
            refine wpAnyH_take (i := 1) (v := (.slice (some ⟨gl, 0, none⟩) R.length cl)) rfl (by kernel_rfl) (by kernel_rfl) (by kernel_rfl) (fun _ _ _ h => h) (Or.inl ⟨by rfl, ?_⟩) (by assumption) ?_
            · intro w' hSw
              go_simp
            simp only [List.getElem_toArray, List.getElem_cons_succ, List.getElem_cons_zero, Act.put, List.setIfInBounds_toArray, List.set_cons_zero, List.set_cons_succ]
            refine wpAnyH_take (i := 2) (v := (.int .i64 (R.length : Int))) rfl (by kernel_rfl) (by kernel_rfl) (by kernel_rfl) (fun _ _ _ h => h) (Or.inl ⟨by rfl, ?_⟩) (by assumption) ?_
            · intro w' hSw
              go_simp
            simp only [List.getElem_toArray, List.getElem_cons_succ, List.getElem_cons_zero, Act.put, List.setIfInBounds_toArray, List.set_cons_zero, List.set_cons_succ]
            refine wpAnyH_take (i := 3) (v := (.int .i64 ((R.length : Int) - 1))) rfl (by kernel_rfl) (by kernel_rfl) (by kernel_rfl) (fun _ _ _ h => h) (Or.inl ⟨by rfl, ?_⟩) (by assumption) ?_
            · intro w' hSw
              go_simp; exact wrapI _ (by omega)
            simp only [List.getElem_toArray, List.getElem_cons_succ, List.getElem_cons_zero, Act.put, List.setIfInBounds_toArray, List.set_cons_zero, List.set_cons_succ]
            refine wpAnyH_take (i := 4) (v := (.int .i64 (i : Int))) rfl (by kernel_rfl) (by kernel_rfl) (by kernel_rfl) (fun _ _ _ h => h) (Or.inl ⟨by rfl, ?_⟩) (by assumption) ?_
            · intro w' hSw
              go_simp
            simp only [List.getElem_toArray, List.getElem_cons_succ, List.getElem_cons_zero, Act.put, List.setIfInBounds_toArray, List.set_cons_zero, List.set_cons_succ]
            refine wpAnyH_take (i := 5) (v := (.int .i64 (j : Int))) rfl (by kernel_rfl) (by kernel_rfl) (by kernel_rfl) (fun _ _ _ h => h) (Or.inl ⟨by rfl, ?_⟩) (by assumption) ?_
            · intro w' hSw
              go_simp; exact wrapI _ (by omega)
            simp only [List.getElem_toArray, List.getElem_cons_succ, List.getElem_cons_zero, Act.put, List.setIfInBounds_toArray, List.set_cons_zero, List.set_cons_succ]
            refine wpAnyH_take (i := 6) (v := (.pointer (some ⟨gl, j, none⟩))) rfl (by kernel_rfl) (by kernel_rfl) (by kernel_rfl) (fun _ _ _ h => h) (Or.inl ⟨by rfl, ?_⟩) (by assumption) ?_
            · intro w' hSw
              go_simp
            simp only [List.getElem_toArray, List.getElem_cons_succ, List.getElem_cons_zero, Act.put, List.setIfInBounds_toArray, List.set_cons_zero, List.set_cons_succ]
            refine wpAnyH_take (i := 7) (v := (.slice (some ⟨b, 0, none⟩) n c)) rfl (by kernel_rfl) (by kernel_rfl) (by kernel_rfl) (fun _ _ _ h => h) (Or.inl ⟨by rfl, ?_⟩) (by assumption) ?_
            · intro w' hSw
              have y0 := hSw
              go_simp
            simp only [List.getElem_toArray, List.getElem_cons_succ, List.getElem_cons_zero, Act.put, List.setIfInBounds_toArray, List.set_cons_zero, List.set_cons_succ]
            refine wpAnyH_take (i := 8) (v := (.slice (some ⟨gl, 0, none⟩) R.length cl)) rfl (by kernel_rfl) (by kernel_rfl) (by kernel_rfl) (fun _ _ _ h => h) (Or.inl ⟨by rfl, ?_⟩) (by assumption) ?_
            · intro w' hSw
              go_simp
            simp only [List.getElem_toArray, List.getElem_cons_succ, List.getElem_cons_zero, Act.put, List.setIfInBounds_toArray, List.set_cons_zero, List.set_cons_succ]
            refine wpAnyH_take (i := 9) (v := (.slice (some ⟨gl, 0, none⟩) R.length cl)) rfl (by kernel_rfl) (by kernel_rfl) (by kernel_rfl) (fun _ _ _ h => h) (Or.inl ⟨by rfl, ?_⟩) (by assumption) ?_
            · intro w' hSw
              go_simp
            simp only [List.getElem_toArray, List.getElem_cons_succ, List.getElem_cons_zero, Act.put, List.setIfInBounds_toArray, List.set_cons_zero, List.set_cons_succ]
            refine wpAnyH_take (i := 10) (v := (.int .i64 (R.length : Int))) rfl (by kernel_rfl) (by kernel_rfl) (by kernel_rfl) (fun _ _ _ h => h) (Or.inl ⟨by rfl, ?_⟩) (by assumption) ?_
            · intro w' hSw
              go_simp
            simp only [List.getElem_toArray, List.getElem_cons_succ, List.getElem_cons_zero, Act.put, List.setIfInBounds_toArray, List.set_cons_zero, List.set_cons_succ]
            refine wpAnyH_take (i := 11) (v := (.int .i64 ((R.length : Int) - 1))) rfl (by kernel_rfl) (by kernel_rfl) (by kernel_rfl) (fun _ _ _ h => h) (Or.inl ⟨by rfl, ?_⟩) (by assumption) ?_
            · intro w' hSw
              go_simp; exact wrapI _ (by omega)
            simp only [List.getElem_toArray, List.getElem_cons_succ, List.getElem_cons_zero, Act.put, List.setIfInBounds_toArray, List.set_cons_zero, List.set_cons_succ]
            refine wpAnyH_take (i := 12) (v := (.int .i64 (i : Int))) rfl (by kernel_rfl) (by kernel_rfl) (by kernel_rfl) (fun _ _ _ h => h) (Or.inl ⟨by rfl, ?_⟩) (by assumption) ?_
            · intro w' hSw
              go_simp
            simp only [List.getElem_toArray, List.getElem_cons_succ, List.getElem_cons_zero, Act.put, List.setIfInBounds_toArray, List.set_cons_zero, List.set_cons_succ]
            refine wpAnyH_take (i := 13) (v := (.int .i64 (j : Int))) rfl (by kernel_rfl) (by kernel_rfl) (by kernel_rfl) (fun _ _ _ h => h) (Or.inl ⟨by rfl, ?_⟩) (by assumption) ?_
            · intro w' hSw
              go_simp; exact wrapI _ (by omega)
            simp only [List.getElem_toArray, List.getElem_cons_succ, List.getElem_cons_zero, Act.put, List.setIfInBounds_toArray, List.set_cons_zero, List.set_cons_succ]
            refine wpAnyH_take (i := 14) (v := (.pointer (some ⟨gl, j, none⟩))) rfl (by kernel_rfl) (by kernel_rfl) (by kernel_rfl) (fun _ _ _ h => h) (Or.inl ⟨by rfl, ?_⟩) (by assumption) ?_
            · intro w' hSw
              go_simp
            simp only [List.getElem_toArray, List.getElem_cons_succ, List.getElem_cons_zero, Act.put, List.setIfInBounds_toArray, List.set_cons_zero, List.set_cons_succ]
            refine wpAnyH_take (i := 15) (v := (.slice (some ⟨b, 0, none⟩) n c)) rfl (by kernel_rfl) (by kernel_rfl) (by kernel_rfl) (fun _ _ _ h => h) (Or.inl ⟨by rfl, ?_⟩) (by assumption) ?_
            · intro w' hSw
              have y0 := hSw
              go_simp
            simp only [List.getElem_toArray, List.getElem_cons_succ, List.getElem_cons_zero, Act.put, List.setIfInBounds_toArray, List.set_cons_zero, List.set_cons_succ]
            refine wpAnyH_take (i := 16) (v := (.int .i64 (n : Int))) rfl (by kernel_rfl) (by kernel_rfl) (by kernel_rfl) (fun _ _ _ h => h) (Or.inl ⟨by rfl, ?_⟩) (by assumption) ?_
            · intro w' hSw
              go_simp
            simp only [List.getElem_toArray, List.getElem_cons_succ, List.getElem_cons_zero, Act.put, List.setIfInBounds_toArray, List.set_cons_zero, List.set_cons_succ]
            have TKd : Tk wd (some ⟨b, 0, none⟩) n A := (by have h : IOwn wd B1 (.slice (some ⟨b, 0, none⟩) n c) A.length A := Rd.own _ hmem.out; rw [← hn.out] at h; exact h.tk (Rd.sm _ hmem.out) (by omega))
            have FSd : 1 ≤ n → ∀ b' o, (some ⟨b, 0, none⟩ : Option Addr) = some ⟨b', o, none⟩ → wd.cell? ⟨b', 0, none⟩ = some (.int .i64 (A.getD 0 0)) := (by have h : IOwn wd B1 (.slice (some ⟨b, 0, none⟩) n c) A.length A := Rd.own _ hmem.out; rw [← hn.out] at h; exact fun h1 => h.first (Rd.sm _ hmem.out) h1)
            have P := put_some c b n A (n : Int) wd _ _ _ _ _ _ Dd.b TKd FSd (by omega) (by omega) (by omega)
            clear TKd FSd
            refine wpAnyH_ready (rs := [17]) (by kernel_rfl) (by simp) ?_
            refine AllReadyH.cons rfl (fun Kc hKc => ?_) AllReadyH.nil
            simp only [List.getElem_toArray, List.getElem_cons_succ, List.getElem_cons_zero]
            rw [if_pos (by rfl)]
            go_wp2_with fail
            refine P.mono ?_
            clear P
            rintro e w5 ⟨⟨x5, rfl⟩, ⟨d5, S5, hd5, T5, O5⟩, B5⟩
            have D5 := Dd.putB T5 O5 B5 (by omega)
            obtain ⟨R5, n5⟩ := Rd.beside (S := Sb) nB.out O5
            have ck5 : w5.cell? ⟨gl, j, none⟩ = some (.slice (some ⟨b, 0, none⟩) n c) := (by have h := R5.cells (t := j) hltj; rw [hat.out] at h; exact h)
            clear Dd Rd T5 O5 B5
            go_wp2_with fail
            refine hKc.out _ _ (ck5) (fun hHeld => ?_)
            clear hKc Kc
            refine wpAnyH_done (by kernel_rfl) ?_ _
            clear hHeld ck5
            have D5' : Duo w w5 S3 S5 (wantV ((R.map (·.2)).take (i + 1))) (wantV ((R.map (·.2)).drop (R.length - (i + 1)))) (280 * (i + 1)) c3 d5 := (by have h := D5; rw [hV.out _ rfl, hN'.out, show 280 * i + 140 + 140 = 280 * (i + 1) by omega] at h; exact h)
            have n3A := n3'
            clear D5 hV hmem hat hA2 hn hle ck
            go_wp2_with fail
            go_roundg (R.length - (i + 1))
            case measure => omega
            case rel => exact ⟨i + 1, S3, S5, c3, d5, by omega, rfl, by go_num, by omega, by omega, R5, D5', n3A, n5⟩
          case neg =>
            obtain rfl : i = R.length := by omega
            have D1 : Duo w wr Sa Sb (wantV (R.map (·.2))) (wantV (R.map (·.2))) (280 * R.length) cc dd := (by have h := DD; rw [List.take_of_length_le (by rw [List.length_map]; exact Nat.le_refl _), Nat.sub_self, List.drop_zero] at h; exact h)
            clear DD nA nB hcc hdd
            obtain ⟨vl, hvl⟩ : ∃ vl, vl = wantV (R.map (·.2)) := ⟨_, rfl⟩
            rw [← hvl] at D1
            have HVL : Hid (vl = wantV (R.map (·.2))) := hvl
            clear hvl
            have CA := all_any wr _ _ _ _ _ _ D1.a (by omega)
            have HD1 : Hid (Duo w wr Sa Sb vl vl (280 * R.length) cc dd) := D1
            have HR1 : Hid (RW wr B1 (.slice (some ⟨gl, 0, none⟩) R.length cl) R) := RR0
            clear D1 RR0
            go_wp2_with (first
              | (go_at_call 20; refine CA.mono ?_; clear CA; rintro e w8 ⟨ao8, c8, E8, rfl, X8, Q8, l8, q8, B8⟩; have CT := told_any w8 _ _ _ _ X8.eo l8 B8.size)
              | (go_at_call 19; refine CT.mono ?_; clear CT; rintro e w9 ⟨a9, c9, rfl, Y9, B9⟩; have D9 := (HD1.out.below B8).below B9; have R9 := (HR1.out.below B8).below B9; have CA2 := all_any w9 _ _ _ _ _ _ D9.b (by omega))
              | (go_at_call 20; refine CA2.mono ?_; clear CA2; rintro e w10 ⟨ao10, c10, E10, rfl, X10, Q10, l10, q10, B10⟩; have CT2 := told_any w10 _ _ _ _ X10.eo l10 B10.size)
              | (go_at_call 19; refine CT2.mono ?_; clear CT2; rintro e w11 ⟨a11, c11, rfl, Y11, B11⟩; have D11 := (D9.below B10).below B11; have R11 := (R9.below B10).below B11; have Y9' := (Y9.below B10).below B11))
            have HEQ : Hid (E8.map (·.2) = E10.map (·.2)) := rowsOf_eq Q8 Q10
            have HQ8 : Hid (RowsOf vl [] (E8.map (·.2))) := Q8
            clear X8 X10 B8 B9 B10 B11 D9 R9 Y9 Q8 Q10 HD1 HR1 q10
            go_loopg [77] E8.length (fun r s77 wq => ∃ i : Nat, i ≤ E8.length ∧ r = E8.length - i ∧ s77 = .int .i64 (i : Int) ∧ Below w11.heap.size w11 wq)
            case atStart => exact ⟨0, by omega, by omega, rfl, Below.refl _ _⟩
            case round =>
              obtain ⟨i, hi3, rfl, rfl, BQ⟩ := hrel
              by_cases hlt : i < E8.length
              case pos =>
                obtain ⟨gx, e9, hgx, hc⟩ := Y9'.cells (by omega)
                subst e9
                obtain ⟨k0, k1⟩ := hc i hlt
                obtain ⟨sa, sc, es, hR⟩ := Y9'.slice hlt
                have hmem := List.getElem_mem hlt
                have hnn0 := q8 _ hmem
                have hvv : E8[i].2.2 = (E8[i].2.1.length : Int) := wantV_val (L := R.map (·.2)) (by rw [← HVL.out]; exact ((HQ8.out.2 E8[i].2.1 E8[i].2.2).1 (List.mem_map.2 ⟨_, hmem, rfl⟩)).2)
                rw [es] at k0
                rw [hvv] at k1
                have kk0 : wr.cell? ⟨gx, i * 2, none⟩ = some (.slice sa E8[i].2.1.length sc) := by rw [BQ.cell (by exact hgx)]; exact k0
                have kk1 : wr.cell? ⟨gx, i * 2 + 1, none⟩ = some (.int .i64 (E8[i].2.1.length : Int)) := by rw [BQ.cell (by exact hgx)]; exact k1
                have hcB : Hid (∀ t (ht : t < E8.length), ∀ W, Below w11.heap.size w11 W → W.cell? ⟨gx, t * 2, none⟩ = some E8[t].1) := fun t ht W hW => by rw [hW.cell (by exact hgx)]; exact (hc t ht).1
                have RC0 := (hR.below BQ).row
                have BV : Below wr.heap.size wr (wr.alloc (.cells #[.slice sa E8[i].2.1.length sc, .int .i64 (E8[i].2.1.length : Int)] 54)) := below_alloc _ _
                have ce0 : (wr.alloc (.cells #[.slice sa E8[i].2.1.length sc, .int .i64 (E8[i].2.1.length : Int)] 54)).cell? ⟨wr.heap.size, 0, none⟩ = some (.slice sa E8[i].2.1.length sc) := by rw [World.cell?_alloc_at _ _ _ _ (by simp)]; rfl
                have ce1 : (wr.alloc (.cells #[.slice sa E8[i].2.1.length sc, .int .i64 (E8[i].2.1.length : Int)] 54)).cell? ⟨wr.heap.size, 1, none⟩ = some (.int .i64 (E8[i].2.1.length : Int)) := by rw [World.cell?_alloc_at _ _ _ _ (by simp)]; rfl
                have RC := RC0.below BV
                have BQV := below_then BQ BV
                have hLS : Hid (∀ k (hk : k + 1 = i), lessL (E8[k]'(by omega)).2.1 E8[i].2.1 = true) := fun k hk => (by have h := List.pairwise_iff_getElem.1 HQ8.out.1 k i (by rw [List.length_map]; omega) (by rw [List.length_map]; exact hlt) (by omega); rw [List.getElem_map, List.getElem_map] at h; exact h)
                clear hc k0 k1 hR RC0 hvv
                have HBV : Hid (Below w11.heap.size w11 (wr.alloc (.cells #[.slice sa E8[i].2.1.length sc, .int .i64 (E8[i].2.1.length : Int)] 54))) := BQV
                clear BQV BQ BV es hmem
                go_upto_region 17 with fail
                obtain ⟨A, hA⟩ : ∃ A, A = E8[i].2.1 := ⟨_, rfl⟩
                rw [← hA] at ce0 ce1 RC hnn0 HBV hLS ⊢
                obtain ⟨n, hn⟩ : ∃ n, n = A.length := ⟨_, rfl⟩
                rw [← hn] at ce0 ce1 RC hnn0 HBV ⊢
                generalize wr.alloc (.cells #[.slice sa n sc, .int .i64 (n : Int)] 54) = wv at *
                obtain ⟨eb, heb⟩ : ∃ eb, eb = wr.heap.size := ⟨_, rfl⟩
                rw [← heb] at ce0 ce1 ⊢
                clear heb kk0 kk1 hn hA
                have hnn : n ≤ 1000000 := by omega
                rcases i with _ | k
                · clear hLS hcB
                  refine wp_region_held_drew (S := fun w' => w'.cell? ⟨eb, 0, none⟩ = some (.slice sa n sc) ∧ w'.cell? ⟨eb, 1, none⟩ = some (.int .i64 (n : Int))) (by kernel_rfl) (⟨ce0, ce1⟩) (fun hHeld => ?_)
                  have BE : Below wv.heap.size wv wv.drew := (Below.refl _ _).drew
                  generalize hwd : wv.drew = wd at *
                  clear hwd
                  refine wpAnyH_take (i := 0) (v := (.int .i64 ((0 : Nat) : Int))) rfl (by kernel_rfl) (by kernel_rfl) (by kernel_rfl) (fun _ _ _ h => h) (Or.inl ⟨by rfl, ?_⟩) (by assumption) ?_
                  · intro w' hSw
                    go_simp
                  simp only [List.getElem_toArray, List.getElem_cons_zero, Act.put, List.setIfInBounds_toArray, List.set_cons_zero, List.set_cons_succ]
                  refine wpAnyH_take (i := 1) (v := (.bool false)) rfl (by kernel_rfl) (by kernel_rfl) (by kernel_rfl) (fun _ _ _ h => h) (Or.inl ⟨by rfl, ?_⟩) (by assumption) ?_
                  · intro w' hSw
                    go_simp
                  simp only [List.getElem_toArray, List.getElem_cons_succ, List.getElem_cons_zero, Act.put, List.setIfInBounds_toArray, List.set_cons_zero, List.set_cons_succ]
                  refine wpAnyH_take (i := 2) (v := (.bool false)) rfl (by kernel_rfl) (by kernel_rfl) (by kernel_rfl) (fun _ _ _ h => h) (Or.inl ⟨by rfl, ?_⟩) (by assumption) ?_
                  · intro w' hSw
                    go_simp
                  simp only [List.getElem_toArray, List.getElem_cons_succ, List.getElem_cons_zero, Act.put, List.setIfInBounds_toArray, List.set_cons_zero, List.set_cons_succ]
                  refine wpAnyH_take (i := 3) (v := undef) rfl (by kernel_rfl) (by kernel_rfl) (by kernel_rfl) (fun _ _ _ h => h) (Or.inr ⟨by rfl, rfl⟩) (by assumption) ?_
                  simp only [List.getElem_toArray, List.getElem_cons_succ, List.getElem_cons_zero, Act.put, List.setIfInBounds_toArray, List.set_cons_zero, List.set_cons_succ]
                  refine wpAnyH_take (i := 4) (v := undef) rfl (by kernel_rfl) (by kernel_rfl) (by kernel_rfl) (fun _ _ _ h => h) (Or.inr ⟨by rfl, rfl⟩) (by assumption) ?_
                  simp only [List.getElem_toArray, List.getElem_cons_succ, List.getElem_cons_zero, Act.put, List.setIfInBounds_toArray, List.set_cons_zero, List.set_cons_succ]
                  refine wpAnyH_take (i := 5) (v := undef) rfl (by kernel_rfl) (by kernel_rfl) (by kernel_rfl) (fun _ _ _ h => h) (Or.inr ⟨by rfl, rfl⟩) (by assumption) ?_
                  simp only [List.getElem_toArray, List.getElem_cons_succ, List.getElem_cons_zero, Act.put, List.setIfInBounds_toArray, List.set_cons_zero, List.set_cons_succ]
                  refine wpAnyH_take (i := 6) (v := undef) rfl (by kernel_rfl) (by kernel_rfl) (by kernel_rfl) (fun _ _ _ h => h) (Or.inr ⟨by rfl, rfl⟩) (by assumption) ?_
                  simp only [List.getElem_toArray, List.getElem_cons_succ, List.getElem_cons_zero, Act.put, List.setIfInBounds_toArray, List.set_cons_zero, List.set_cons_succ]
                  refine wpAnyH_take (i := 7) (v := undef) rfl (by kernel_rfl) (by kernel_rfl) (by kernel_rfl) (fun _ _ _ h => h) (Or.inr ⟨by rfl, rfl⟩) (by assumption) ?_
                  simp only [List.getElem_toArray, List.getElem_cons_succ, List.getElem_cons_zero, Act.put, List.setIfInBounds_toArray, List.set_cons_zero, List.set_cons_succ]
                  refine wpAnyH_take (i := 8) (v := undef) rfl (by kernel_rfl) (by kernel_rfl) (by kernel_rfl) (fun _ _ _ h => h) (Or.inr ⟨by rfl, rfl⟩) (by assumption) ?_
                  simp only [List.getElem_toArray, List.getElem_cons_succ, List.getElem_cons_zero, Act.put, List.setIfInBounds_toArray, List.set_cons_zero, List.set_cons_succ]
                  refine wpAnyH_take (i := 9) (v := undef) rfl (by kernel_rfl) (by kernel_rfl) (by kernel_rfl) (fun _ _ _ h => h) (Or.inr ⟨by rfl, rfl⟩) (by assumption) ?_
                  simp only [List.getElem_toArray, List.getElem_cons_succ, List.getElem_cons_zero, Act.put, List.setIfInBounds_toArray, List.set_cons_zero, List.set_cons_succ]
                  refine wpAnyH_take (i := 10) (v := undef) rfl (by kernel_rfl) (by kernel_rfl) (by kernel_rfl) (fun _ _ _ h => h) (Or.inr ⟨by rfl, rfl⟩) (by assumption) ?_
                  simp only [List.getElem_toArray, List.getElem_cons_succ, List.getElem_cons_zero, Act.put, List.setIfInBounds_toArray, List.set_cons_zero, List.set_cons_succ]
                  refine wpAnyH_take (i := 11) (v := undef) rfl (by kernel_rfl) (by kernel_rfl) (by kernel_rfl) (fun _ _ _ h => h) (Or.inr ⟨by rfl, rfl⟩) (by assumption) ?_
                  simp only [List.getElem_toArray, List.getElem_cons_succ, List.getElem_cons_zero, Act.put, List.setIfInBounds_toArray, List.set_cons_zero, List.set_cons_succ]
                  refine wpAnyH_take (i := 12) (v := undef) rfl (by kernel_rfl) (by kernel_rfl) (by kernel_rfl) (fun _ _ _ h => h) (Or.inr ⟨by rfl, rfl⟩) (by assumption) ?_
                  simp only [List.getElem_toArray, List.getElem_cons_succ, List.getElem_cons_zero, Act.put, List.setIfInBounds_toArray, List.set_cons_zero, List.set_cons_succ]
                  refine wpAnyH_take (i := 13) (v := (.bool false)) rfl (by kernel_rfl) (by kernel_rfl) (by kernel_rfl) (fun _ _ _ h => h) (Or.inl ⟨by rfl, ?_⟩) (by assumption) ?_
                  · intro w' hSw
                    go_simp
                  simp only [List.getElem_toArray, List.getElem_cons_succ, List.getElem_cons_zero, Act.put, List.setIfInBounds_toArray, List.set_cons_zero, List.set_cons_succ]
                  refine wpAnyH_take (i := 14) (v := (.bool false)) rfl (by kernel_rfl) (by kernel_rfl) (by kernel_rfl) (fun _ _ _ h => h) (Or.inl ⟨by rfl, ?_⟩) (by assumption) ?_
                  · intro w' hSw
                    go_simp
                  simp only [List.getElem_toArray, List.getElem_cons_succ, List.getElem_cons_zero, Act.put, List.setIfInBounds_toArray, List.set_cons_zero, List.set_cons_succ]
                  refine wpAnyH_take (i := 15) (v := (.pointer (some ⟨eb, 1, none⟩))) rfl (by kernel_rfl) (by kernel_rfl) (by kernel_rfl) (fun _ _ _ h => h) (Or.inl ⟨by rfl, ?_⟩) (by assumption) ?_
                  · intro w' hSw
                    go_simp
                  simp only [List.getElem_toArray, List.getElem_cons_succ, List.getElem_cons_zero, Act.put, List.setIfInBounds_toArray, List.set_cons_zero, List.set_cons_succ]
                  refine wpAnyH_take (i := 16) (v := (.int .i64 (n : Int))) rfl (by kernel_rfl) (by kernel_rfl) (by kernel_rfl) (fun _ _ _ h => h) (Or.inl ⟨by rfl, ?_⟩) (by assumption) ?_
                  · intro w' hSw
                    have y0 := hSw.2
                    go_simp
                  simp only [List.getElem_toArray, List.getElem_cons_succ, List.getElem_cons_zero, Act.put, List.setIfInBounds_toArray, List.set_cons_zero, List.set_cons_succ]
                  refine wpAnyH_take (i := 17) (v := (.pointer (some ⟨eb, 0, none⟩))) rfl (by kernel_rfl) (by kernel_rfl) (by kernel_rfl) (fun _ _ _ h => h) (Or.inl ⟨by rfl, ?_⟩) (by assumption) ?_
                  · intro w' hSw
                    go_simp
                  simp only [List.getElem_toArray, List.getElem_cons_succ, List.getElem_cons_zero, Act.put, List.setIfInBounds_toArray, List.set_cons_zero, List.set_cons_succ]
                  refine wpAnyH_take (i := 18) (v := (.slice sa n sc)) rfl (by kernel_rfl) (by kernel_rfl) (by kernel_rfl) (fun _ _ _ h => h) (Or.inl ⟨by rfl, ?_⟩) (by assumption) ?_
                  · intro w' hSw
                    have y0 := hSw.1
                    go_simp
                  simp only [List.getElem_toArray, List.getElem_cons_succ, List.getElem_cons_zero, Act.put, List.setIfInBounds_toArray, List.set_cons_zero, List.set_cons_succ]
                  refine wpAnyH_take (i := 19) (v := (.int .i64 (n : Int))) rfl (by kernel_rfl) (by kernel_rfl) (by kernel_rfl) (fun _ _ _ h => h) (Or.inl ⟨by rfl, ?_⟩) (by assumption) ?_
                  · intro w' hSw
                    go_simp
                  simp only [List.getElem_toArray, List.getElem_cons_succ, List.getElem_cons_zero, Act.put, List.setIfInBounds_toArray, List.set_cons_zero, List.set_cons_succ]
                  refine wpAnyH_take (i := 20) (v := (.bool false)) rfl (by kernel_rfl) (by kernel_rfl) (by kernel_rfl) (fun _ _ _ h => h) (Or.inl ⟨by rfl, ?_⟩) (by assumption) ?_
                  · intro w' hSw
                    go_simp
                  simp only [List.getElem_toArray, List.getElem_cons_succ, List.getElem_cons_zero, Act.put, List.setIfInBounds_toArray, List.set_cons_zero, List.set_cons_succ]
                  refine wpAnyH_take (i := 21) (v := (.bool false)) rfl (by kernel_rfl) (by kernel_rfl) (by kernel_rfl) (fun _ _ _ h => h) (Or.inl ⟨by rfl, ?_⟩) (by assumption) ?_
                  · intro w' hSw
                    go_simp
                  simp only [List.getElem_toArray, List.getElem_cons_succ, List.getElem_cons_zero, Act.put, List.setIfInBounds_toArray, List.set_cons_zero, List.set_cons_succ]
                  refine wpAnyH_done (by kernel_rfl) ?_ _
                  clear hHeld
                  go_wp2_with fail
                  go_roundg (E8.length - (0 + 1))
                  case measure => omega
                  case rel => exact ⟨1, by omega, by omega, by go_num, below_then HBV.out BE⟩
                · have cp := hcB.out k (by omega) wv HBV.out
                  have hless := hLS.out k rfl
                  obtain ⟨pa, pc, ep, hP⟩ := Y9'.slice (show k < E8.length by omega)
                  have hpn0 := q8 _ (List.getElem_mem (show k < E8.length by omega))
                  have RP := (hP.below HBV.out).row
                  rw [ep] at cp
                  obtain ⟨AP, hAP⟩ : ∃ AP, AP = (E8[k]'(by omega)).2.1 := ⟨_, rfl⟩
                  rw [← hAP] at cp RP hless hpn0
                  obtain ⟨pn, hpn1⟩ : ∃ pn, pn = AP.length := ⟨_, rfl⟩
                  rw [← hpn1] at cp RP hpn0
                  have hpn : pn ≤ 1000000 := by omega
                  have hki : ((k + 1 : Nat) : Int) - 1 = (k : Int) := by omega
                  have hkl : k < E8.length := by omega
                  clear hP ep hAP hpn1 hcB hLS
                  refine wp_region_held_drew (S := fun w' => w'.cell? ⟨gx, k * 2, none⟩ = some (.slice pa pn pc) ∧ w'.cell? ⟨eb, 0, none⟩ = some (.slice sa n sc) ∧ w'.cell? ⟨eb, 1, none⟩ = some (.int .i64 (n : Int))) (by kernel_rfl) (⟨cp, ce0, ce1⟩) (fun hHeld => ?_)
                  have RPd : IRowAt wv.drew pa pn AP := RP.below (Below.refl _ _).drew
                  have RCd : IRowAt wv.drew sa n A := RC.below (Below.refl _ _).drew
                  have Bvd : Below wv.heap.size wv wv.drew := (Below.refl _ _).drew
                  have hzv : Hid (wv.drew.heap.size = wv.heap.size) := rfl
                  generalize hwd : wv.drew = wd at *
                  clear hwd
                  refine wpAnyH_take (i := 0) (v := (.int .i64 ((k + 1 : Nat) : Int))) rfl (by kernel_rfl) (by kernel_rfl) (by kernel_rfl) (fun _ _ _ h => h) (Or.inl ⟨by rfl, ?_⟩) (by assumption) ?_
                  · intro w' hSw
                    go_simp
                  simp only [List.getElem_toArray, List.getElem_cons_zero, Act.put, List.setIfInBounds_toArray, List.set_cons_zero, List.set_cons_succ]
                  refine wpAnyH_take (i := 1) (v := (.bool true)) rfl (by kernel_rfl) (by kernel_rfl) (by kernel_rfl) (fun _ _ _ h => h) (Or.inl ⟨by rfl, ?_⟩) (by assumption) ?_
                  · intro w' hSw
                    go_simp
                  simp only [List.getElem_toArray, List.getElem_cons_succ, List.getElem_cons_zero, Act.put, List.setIfInBounds_toArray, List.set_cons_zero, List.set_cons_succ]
                  refine wpAnyH_take (i := 2) (v := (.bool true)) rfl (by kernel_rfl) (by kernel_rfl) (by kernel_rfl) (fun _ _ _ h => h) (Or.inl ⟨by rfl, ?_⟩) (by assumption) ?_
                  · intro w' hSw
                    go_simp
                  simp only [List.getElem_toArray, List.getElem_cons_succ, List.getElem_cons_zero, Act.put, List.setIfInBounds_toArray, List.set_cons_zero, List.set_cons_succ]
                  refine wpAnyH_take (i := 3) (v := (.slice (some ⟨gx, 0, none⟩) E8.length c9)) rfl (by kernel_rfl) (by kernel_rfl) (by kernel_rfl) (fun _ _ _ h => h) (Or.inl ⟨by rfl, ?_⟩) (by assumption) ?_
                  · intro w' hSw
                    go_simp
                  simp only [List.getElem_toArray, List.getElem_cons_succ, List.getElem_cons_zero, Act.put, List.setIfInBounds_toArray, List.set_cons_zero, List.set_cons_succ]
                  refine wpAnyH_take (i := 4) (v := (.int .i64 ((k + 1 : Nat) : Int))) rfl (by kernel_rfl) (by kernel_rfl) (by kernel_rfl) (fun _ _ _ h => h) (Or.inl ⟨by rfl, ?_⟩) (by assumption) ?_
                  · intro w' hSw
                    go_simp
                  simp only [List.getElem_toArray, List.getElem_cons_succ, List.getElem_cons_zero, Act.put, List.setIfInBounds_toArray, List.set_cons_zero, List.set_cons_succ]
                  refine wpAnyH_take (i := 5) (v := (.int .i64 (k : Int))) rfl (by kernel_rfl) (by kernel_rfl) (by kernel_rfl) (fun _ _ _ h => h) (Or.inl ⟨by rfl, ?_⟩) (by assumption) ?_
                  · intro w' hSw
                    first | (go_simp; exact wrapI _ (by omega)) | go_simp
                  simp only [List.getElem_toArray, List.getElem_cons_succ, List.getElem_cons_zero, Act.put, List.setIfInBounds_toArray, List.set_cons_zero, List.set_cons_succ]
                  refine wpAnyH_take (i := 6) (v := (.pointer (some ⟨gx, k * 2, none⟩))) rfl (by kernel_rfl) (by kernel_rfl) (by kernel_rfl) (fun _ _ _ h => h) (Or.inl ⟨by rfl, ?_⟩) (by assumption) ?_
                  · intro w' hSw
                    go_simp
                  simp only [List.getElem_toArray, List.getElem_cons_succ, List.getElem_cons_zero, Act.put, List.setIfInBounds_toArray, List.set_cons_zero, List.set_cons_succ]
                  refine wpAnyH_take (i := 7) (v := (.pointer (some ⟨gx, k * 2, none⟩))) rfl (by kernel_rfl) (by kernel_rfl) (by kernel_rfl) (fun _ _ _ h => h) (Or.inl ⟨by rfl, ?_⟩) (by assumption) ?_
                  · intro w' hSw
                    go_simp
                  simp only [List.getElem_toArray, List.getElem_cons_succ, List.getElem_cons_zero, Act.put, List.setIfInBounds_toArray, List.set_cons_zero, List.set_cons_succ]
                  refine wpAnyH_take (i := 8) (v := (.slice pa pn pc)) rfl (by kernel_rfl) (by kernel_rfl) (by kernel_rfl) (fun _ _ _ h => h) (Or.inl ⟨by rfl, ?_⟩) (by assumption) ?_
                  · intro w' hSw
                    have y0 := hSw.1
                    go_simp
                  simp only [List.getElem_toArray, List.getElem_cons_succ, List.getElem_cons_zero, Act.put, List.setIfInBounds_toArray, List.set_cons_zero, List.set_cons_succ]
                  refine wpAnyH_take (i := 9) (v := (.pointer (some ⟨eb, 0, none⟩))) rfl (by kernel_rfl) (by kernel_rfl) (by kernel_rfl) (fun _ _ _ h => h) (Or.inl ⟨by rfl, ?_⟩) (by assumption) ?_
                  · intro w' hSw
                    go_simp
                  simp only [List.getElem_toArray, List.getElem_cons_succ, List.getElem_cons_zero, Act.put, List.setIfInBounds_toArray, List.set_cons_zero, List.set_cons_succ]
                  refine wpAnyH_take (i := 10) (v := (.slice sa n sc)) rfl (by kernel_rfl) (by kernel_rfl) (by kernel_rfl) (fun _ _ _ h => h) (Or.inl ⟨by rfl, ?_⟩) (by assumption) ?_
                  · intro w' hSw
                    have y0 := hSw.2.1
                    go_simp
                  simp only [List.getElem_toArray, List.getElem_cons_succ, List.getElem_cons_zero, Act.put, List.setIfInBounds_toArray, List.set_cons_zero, List.set_cons_succ]
                  refine wpAnyH_ready (rs := [11]) (by kernel_rfl) (by simp) ?_
                  refine AllReadyH.cons rfl (fun Kc hKc => ?_) AllReadyH.nil
                  simp only [List.getElem_toArray, List.getElem_cons_succ, List.getElem_cons_zero]
                  rw [if_pos (by rfl)]
                  go_wp2_with fail
                  refine (less_yes wd pa sa pn n pc sc AP A RPd RCd hpn hnn hless).mono ?_
                  rintro e w5 ⟨rfl, m5, h5⟩
                  have B5 : Below wd.heap.size wd w5 := (by rw [h5]; exact below_drewN (Below.refl _ _) m5)
                  have K5 : w5.cell? ⟨gx, k * 2, none⟩ = some (.slice pa pn pc) ∧ w5.cell? ⟨eb, 0, none⟩ = some (.slice sa n sc) ∧ w5.cell? ⟨eb, 1, none⟩ = some (.int .i64 (n : Int)) := h5 ▸ hHeld
                  clear h5
                  go_wp2_with fail
                  refine hKc.out _ _ (K5) (fun hHeld => ?_)
                  clear hKc Kc
                  refine wpAnyH_take (i := 12) (v := (.bool false)) rfl (by kernel_rfl) (by kernel_rfl) (by kernel_rfl) (fun _ _ _ h => h) (Or.inl ⟨by rfl, ?_⟩) (by assumption) ?_
                  · intro w' hSw
                    go_simp
                  simp only [List.getElem_toArray, List.getElem_cons_succ, List.getElem_cons_zero, Act.put, List.setIfInBounds_toArray, List.set_cons_zero, List.set_cons_succ]
                  refine wpAnyH_take (i := 13) (v := (.bool false)) rfl (by kernel_rfl) (by kernel_rfl) (by kernel_rfl) (fun _ _ _ h => h) (Or.inl ⟨by rfl, ?_⟩) (by assumption) ?_
                  · intro w' hSw
                    go_simp
                  simp only [List.getElem_toArray, List.getElem_cons_succ, List.getElem_cons_zero, Act.put, List.setIfInBounds_toArray, List.set_cons_zero, List.set_cons_succ]
                  refine wpAnyH_take (i := 14) (v := (.bool false)) rfl (by kernel_rfl) (by kernel_rfl) (by kernel_rfl) (fun _ _ _ h => h) (Or.inl ⟨by rfl, ?_⟩) (by assumption) ?_
                  · intro w' hSw
                    go_simp
                  simp only [List.getElem_toArray, List.getElem_cons_succ, List.getElem_cons_zero, Act.put, List.setIfInBounds_toArray, List.set_cons_zero, List.set_cons_succ]
                  refine wpAnyH_take (i := 15) (v := (.pointer (some ⟨eb, 1, none⟩))) rfl (by kernel_rfl) (by kernel_rfl) (by kernel_rfl) (fun _ _ _ h => h) (Or.inl ⟨by rfl, ?_⟩) (by assumption) ?_
                  · intro w' hSw
                    go_simp
                  simp only [List.getElem_toArray, List.getElem_cons_succ, List.getElem_cons_zero, Act.put, List.setIfInBounds_toArray, List.set_cons_zero, List.set_cons_succ]
                  refine wpAnyH_take (i := 16) (v := (.int .i64 (n : Int))) rfl (by kernel_rfl) (by kernel_rfl) (by kernel_rfl) (fun _ _ _ h => h) (Or.inl ⟨by rfl, ?_⟩) (by assumption) ?_
                  · intro w' hSw
                    have y0 := hSw.2.2
                    go_simp
                  simp only [List.getElem_toArray, List.getElem_cons_succ, List.getElem_cons_zero, Act.put, List.setIfInBounds_toArray, List.set_cons_zero, List.set_cons_succ]
                  refine wpAnyH_take (i := 17) (v := (.pointer (some ⟨eb, 0, none⟩))) rfl (by kernel_rfl) (by kernel_rfl) (by kernel_rfl) (fun _ _ _ h => h) (Or.inl ⟨by rfl, ?_⟩) (by assumption) ?_
                  · intro w' hSw
                    go_simp
                  simp only [List.getElem_toArray, List.getElem_cons_succ, List.getElem_cons_zero, Act.put, List.setIfInBounds_toArray, List.set_cons_zero, List.set_cons_succ]
                  refine wpAnyH_take (i := 18) (v := (.slice sa n sc)) rfl (by kernel_rfl) (by kernel_rfl) (by kernel_rfl) (fun _ _ _ h => h) (Or.inl ⟨by rfl, ?_⟩) (by assumption) ?_
                  · intro w' hSw
                    have y0 := hSw.2.1
                    go_simp
                  simp only [List.getElem_toArray, List.getElem_cons_succ, List.getElem_cons_zero, Act.put, List.setIfInBounds_toArray, List.set_cons_zero, List.set_cons_succ]
                  refine wpAnyH_take (i := 19) (v := (.int .i64 (n : Int))) rfl (by kernel_rfl) (by kernel_rfl) (by kernel_rfl) (fun _ _ _ h => h) (Or.inl ⟨by rfl, ?_⟩) (by assumption) ?_
                  · intro w' hSw
                    go_simp
                  simp only [List.getElem_toArray, List.getElem_cons_succ, List.getElem_cons_zero, Act.put, List.setIfInBounds_toArray, List.set_cons_zero, List.set_cons_succ]
                  refine wpAnyH_take (i := 20) (v := (.bool false)) rfl (by kernel_rfl) (by kernel_rfl) (by kernel_rfl) (fun _ _ _ h => h) (Or.inl ⟨by rfl, ?_⟩) (by assumption) ?_
                  · intro w' hSw
                    go_simp
                  simp only [List.getElem_toArray, List.getElem_cons_succ, List.getElem_cons_zero, Act.put, List.setIfInBounds_toArray, List.set_cons_zero, List.set_cons_succ]
                  refine wpAnyH_take (i := 21) (v := (.bool false)) rfl (by kernel_rfl) (by kernel_rfl) (by kernel_rfl) (fun _ _ _ h => h) (Or.inl ⟨by rfl, ?_⟩) (by assumption) ?_
                  · intro w' hSw
                    go_simp
                  simp only [List.getElem_toArray, List.getElem_cons_succ, List.getElem_cons_zero, Act.put, List.setIfInBounds_toArray, List.set_cons_zero, List.set_cons_succ]
                  refine wpAnyH_done (by kernel_rfl) ?_ _
                  clear hHeld
                  go_wp2_with fail
                  have BE := below_then Bvd B5
                  go_roundg (E8.length - (k + 1 + 1))
                  case measure => omega
                  case rel => exact ⟨k + 1 + 1, by omega, rfl, by go_num, below_then HBV.out BE⟩
              case neg =>
                obtain rfl : i = E8.length := by omega
                have D12 := D11.below BQ
                have R12 := R11.below BQ
                have Y12 := Y9'.below BQ
                have Y12b := Y11.below BQ
                clear D11 R11 Y9' Y11 BQ
                go_wp2_with fail
                go_loopg [107] R.length (fun r s107 wq => ∃ i : Nat, i ≤ R.length ∧ r = R.length - i ∧ s107 = .int .i64 (i : Int) ∧ Below wr.heap.size wr wq)
                case atStart => exact ⟨0, by omega, by omega, rfl, Below.refl _ _⟩
                case round =>
                  obtain ⟨i, hi4, rfl, rfl, BQ⟩ := hrel
                  have HD : Hid (Duo w wr Sa Sb vl vl (280 * R.length) cc dd) := D12.below BQ
                  have RR0 := R12.below BQ
                  have HY : Hid (EO 54 wr _ (.slice a9 E8.length c9) E8) := Y12.below BQ
                  have HYb : Hid (EO 54 wr _ (.slice a11 E10.length c11) E10) := Y12b.below BQ
                  have HBQ : Hid (Below w.heap.size w wr) := HD.out.bel
                  by_cases hlt : i < R.length
                  case pos =>
                    obtain ⟨i0, hi0, hz0, hz1, hz2⟩ := info_parts Try.infoInt
                    have ck0 := RR0.cells (t := i) hlt
                    obtain ⟨rr, hrr⟩ : ∃ rr, rr = R[i] := ⟨_, rfl⟩
                    have hmem0 : R[i] ∈ R := List.getElem_mem hlt
                    rw [← hrr] at ck0 hmem0
                    obtain ⟨b, c, es⟩ := RR0.fm _ hmem0
                    have hle := RR0.le _ hmem0
                    obtain ⟨A, hAe⟩ : ∃ A, A = rr.2 := ⟨_, rfl⟩
                    rw [← hAe] at es hle
                    obtain ⟨n, hne⟩ : ∃ n, n = A.length := ⟨_, rfl⟩
                    rw [← hne] at es hle
                    rw [es] at ck0
                    have hmem : Hid (((.slice (some ⟨b, 0, none⟩) n c : Value), A) ∈ R) := (by show _ ∈ R; rw [← es, hAe]; exact hmem0)
                    have hat : Hid (R[i].1 = .slice (some ⟨b, 0, none⟩) n c) := (by show _ = _; rw [← hrr]; exact es)
                    have hA2 : Hid (R[i].2 = A) := (by show _ = _; rw [← hrr, hAe])
                    have hn : Hid (n = A.length) := hne
                    have ck := ck0
                    clear ck0 es hmem0 hrr hne hAe rr
                    have hIO : IOwn wr B1 (.slice (some ⟨b, 0, none⟩) n c) n A := (by have h : IOwn wr B1 (.slice (some ⟨b, 0, none⟩) n c) A.length A := RR0.own _ hmem.out; rw [← hn.out] at h; exact h)
                    have hsm : Sm A := RR0.sm _ hmem.out
                    have TK := hIO.tk hsm (by omega)
                    obtain ⟨ao', c', e', hAr⟩ := hIO.arg hsm
                    obtain ⟨rfl, rfl⟩ : some ⟨b, 0, none⟩ = ao' ∧ c = c' := (by injection e' with e1 e2 e3; exact ⟨e1, e3⟩)
                    have hfit := hAr.fit
                    have hcm := hAr.max
                    have O0 : (wr.alloc (.cells #[] 3)).ownsRow wr.heap.size 3 1 (.slice (some ⟨wr.heap.size, 0, none⟩) 0 0) 0 [] := World.ownsRow_made wr #[] 0 (Nat.le_refl _) (by decide) rfl
                    have hvals := (hAr.row.below (below_alloc wr (.cells #[] 3))).vals
                    have hlm : (A.map (Value.int .i64)).length = n * 1 := (by rw [List.length_map, ← hn.out, Nat.mul_one])
                    have HP1 : Hid (∀ v1 w6, w6.ownsRow wr.heap.size 3 1 v1 (0 + n) ([] ++ A.map (Value.int .i64)) → (wr.alloc (.cells #[] 3)).grownBy w6 (some wr.heap.size) → (v1 = .slice none 0 0 ↔ (.slice (some ⟨wr.heap.size, 0, none⟩) 0 0 : Value) = .slice none 0 0 ∧ n = 0) → ∃ g1 c1, IOwn w6 wr.heap.size (.slice (some ⟨g1, 0, none⟩) n c1) n A ∧ Below wr.heap.size wr w6 ∧ v1 = .slice (some ⟨g1, 0, none⟩) n c1) := fun v1 w6 O1 G1 N1 => (by
              rw [Nat.zero_add, List.nil_append] at O1
              obtain ⟨g1, c1, rfl⟩ : ∃ g1 c1, v1 = .slice (some ⟨g1, 0, none⟩) n c1 := (by
                rcases O1.2 with ⟨h3, _⟩ | ⟨g, cap, cur, hv, _⟩
                · have := (N1.1 h3).1; cases this
                · exact ⟨_, _, hv⟩)
              exact ⟨g1, c1, O1, (below_alloc wr (.cells #[] 3)).trans ((Below.refl _ _).grown G1 (by simp) (fun k hk => (World.ownsRow.lt O0 k hk).1)), rfl⟩)
                    have HP2 : Hid (∀ w6 v1 v2 w7, Below wr.heap.size wr w6 → IOwn (w6.alloc (.cells #[.int .i64 1, .int .i64 2] 3)) wr.heap.size v1 n A → w7.ownsRow wr.heap.size 3 1 v2 (n + 2) (A.map (Value.int .i64) ++ [1, 2].map (Value.int .i64)) → (w6.alloc (.cells #[.int .i64 1, .int .i64 2] 3)).grownBy w7 v1.ownBlock → (v2 = .slice none 0 0 ↔ v1 = .slice none 0 0 ∧ 2 = 0) → ∃ g2 c2, IOwn w7 wr.heap.size (.slice (some ⟨g2, 0, none⟩) (n + 2) c2) (n + 2) (A ++ [1, 2]) ∧ Below wr.heap.size wr w7 ∧ v2 = .slice (some ⟨g2, 0, none⟩) (n + 2) c2) := fun w6 v1 v2 w7 B6 O3 O4 G4 N4 => (by
              obtain ⟨g2, c2, rfl⟩ : ∃ g2 c2, v2 = .slice (some ⟨g2, 0, none⟩) (n + 2) c2 := (by
                rcases O4.2 with ⟨h3, h4⟩ | ⟨g, cap, cur, hv, _⟩
                · omega
                · exact ⟨_, _, hv⟩)
              refine ⟨g2, c2, ?_, ?_, rfl⟩
              · have h := O4
                rw [← List.map_append] at h
                exact h
              · have h1 := B6.trans ((below_alloc w6 (.cells #[.int .i64 1, .int .i64 2] 3)).mono B6.size)
                exact h1.grown G4 h1.size (fun k hk => (World.ownsRow.lt O3 k hk).1))
                    have hAm : A ∈ R.map (·.2) := List.mem_map.2 ⟨_, hmem.out, rfl⟩
                    have hsm2 : Sm (A ++ [1, 2]) := (by have h := (hsm.snoc (k := 1) (by omega)).snoc (k := 2) (by omega); rw [List.append_assoc] at h; exact h)
                    have HLG : Hid (∀ g2 c2 w7, IOwn w7 wr.heap.size (.slice (some ⟨g2, 0, none⟩) (n + 2) c2) (n + 2) (A ++ [1, 2]) → Below wr.heap.size wr w7 → Calls Try.prog 16 #[.pointer (some ⟨w.heap.size, 0, none⟩), .slice (some ⟨g2, 0, none⟩) (n + 2) c2] w7 fun e w' => e = .returned (.tuple #[.int .i64 ((lgN vl (A ++ [1, 2]) (n + 2)).1 : Int), .int .i64 (lgN vl (A ++ [1, 2]) (n + 2)).2]) ∧ ∃ m, w' = w7.drewN m) := fun g2 c2 w7 O5 B7 => longest_any _ (n + 2) c2 _ w7 _ _ _ _ _ _ (HD.out.below B7).a (O5.tk hsm2 (by omega))
                    obtain ⟨lg1, lg2⟩ := lg_want (R.map (·.2)) (A ++ [1, 2]) (n + 2) (by rw [List.length_append, ← hn.out]; exact Nat.le_refl _)
                    have lg3 := lg2 n
                    have lgb := lgN_bd vl (A ++ [1, 2]) (n + 2)
                    rw [← HVL.out] at lg1 lg3
                    have htk : (A ++ [1, 2]).take n = A := (by rw [hn.out, List.take_left])
                    rw [htk] at lg3
                    have G := get_any (some ⟨b, 0, none⟩) n c A wr _ _ _ _ _ _ HD.out.a TK
                    rw [lg1] at HLG
                    generalize (lgN vl (A ++ [1, 2]) (n + 2)).1 = p at *
                    have hvA : vl A = wantV (R.map (·.2)) A := by rw [HVL.out]
                    unfold wantV at hvA
                    have HRR : Hid (RW wr B1 (.slice (some ⟨gl, 0, none⟩) R.length cl) R) := RR0
                    clear RR0 lg2 htk TK hIO hAr e' hsm hsm2 lg1
                    by_cases hin : 1 ≤ n ∧ n ≤ 128
                    · obtain ⟨hin1, hin2⟩ := hin
                      rw [if_pos ⟨hAm, by rw [← hn.out]; exact hin1, by rw [← hn.out]; exact hin2⟩, ← hn.out] at hvA
                      have hp := lg3 hin1 (by omega) (by rw [hvA]; simp)
                      rw [hvA] at G
                      clear lg3 hvA hAm hmem hat hA2
                      go_wp2_with (first
                        | (go_at_call 15; refine G.mono ?_; clear G; rintro e w5 ⟨rfl, hw5⟩; replace hw5 := hw5.symm; subst hw5)
                        | (at_builtin; refine wpList_append_own _ rfl _ _ 23 rfl wr.heap.size 3 i0 (.int .i64 0) 1 8 Try.underlying23 hi0 hz0 hz1 hz2 rfl (by decide) _ 0 [] rfl O0 ⟨b, 0, none⟩ n c (A.map (Value.int .i64)) rfl hlm hvals (ints_oneCell _ _) (by unfold maxLen; omega) (by omega) (by simp) ?_; intro v1 w6 O1 G1 N1; obtain ⟨g1, c1, O2, B6, rfl⟩ := HP1.out v1 w6 O1 G1 N1; clear O1 G1 N1; have O3 := O2.keep (fun x hx => (below_alloc w6 (.cells #[.int .i64 1, .int .i64 2] 3)).block x (World.ownsRow.lt O2 x hx).2); have z6 := B6.size)
                        | (at_builtin; refine wpList_append_own _ rfl _ _ 23 rfl wr.heap.size 3 i0 (.int .i64 0) 1 8 Try.underlying23 hi0 hz0 hz1 hz2 rfl (by decide) _ n (A.map (Value.int .i64)) rfl O3 ⟨w6.heap.size, 0, none⟩ 2 2 ([1, 2].map (Value.int .i64)) rfl rfl (lit2_vals w6) (ints_oneCell _ _) (by unfold maxLen; omega) (by omega) (by simp; omega) ?_; intro v2 w7 O4 G4 N4; obtain ⟨g2, c2, O5, B7, rfl⟩ := HP2.out w6 _ v2 w7 B6 O3 O4 G4 N4; clear O4 G4 N4; have LG := HLG.out g2 c2 w7 O5 B7)
                        | (go_at_call 16; refine LG.mono ?_; clear LG; rintro e w8 ⟨rfl, m8, h8⟩; have B8 : Below wr.heap.size wr w8 := (by rw [h8]; exact below_drewN B7 m8); clear h8))
                      go_roundg (R.length - (i + 1))
                      case measure => omega
                      case rel => exact ⟨i + 1, by omega, rfl, by go_num, below_then BQ B8⟩
                    · rw [if_neg (fun h => hin (by rw [hn.out]; exact h.2))] at hvA
                      rw [hvA] at G
                      have hin' : n < 1 ∨ (1 ≤ n ∧ 128 < n) := by omega
                      clear lg3 hvA hAm hmem hat hA2 hin
                      rcases hin' with hin1 | ⟨hin1, hin2⟩
                      · go_wp2_with (first
                          | (go_at_call 15; refine G.mono ?_; clear G; rintro e w5 ⟨rfl, hw5⟩; replace hw5 := hw5.symm; subst hw5)
                          | (at_builtin; refine wpList_append_own _ rfl _ _ 23 rfl wr.heap.size 3 i0 (.int .i64 0) 1 8 Try.underlying23 hi0 hz0 hz1 hz2 rfl (by decide) _ 0 [] rfl O0 ⟨b, 0, none⟩ n c (A.map (Value.int .i64)) rfl hlm hvals (ints_oneCell _ _) (by unfold maxLen; omega) (by omega) (by simp) ?_; intro v1 w6 O1 G1 N1; obtain ⟨g1, c1, O2, B6, rfl⟩ := HP1.out v1 w6 O1 G1 N1; clear O1 G1 N1; have O3 := O2.keep (fun x hx => (below_alloc w6 (.cells #[.int .i64 1, .int .i64 2] 3)).block x (World.ownsRow.lt O2 x hx).2); have z6 := B6.size)
                          | (at_builtin; refine wpList_append_own _ rfl _ _ 23 rfl wr.heap.size 3 i0 (.int .i64 0) 1 8 Try.underlying23 hi0 hz0 hz1 hz2 rfl (by decide) _ n (A.map (Value.int .i64)) rfl O3 ⟨w6.heap.size, 0, none⟩ 2 2 ([1, 2].map (Value.int .i64)) rfl rfl (lit2_vals w6) (ints_oneCell _ _) (by unfold maxLen; omega) (by omega) (by simp; omega) ?_; intro v2 w7 O4 G4 N4; obtain ⟨g2, c2, O5, B7, rfl⟩ := HP2.out w6 _ v2 w7 B6 O3 O4 G4 N4; clear O4 G4 N4; have LG := HLG.out g2 c2 w7 O5 B7)
                          | (go_at_call 16; refine LG.mono ?_; clear LG; rintro e w8 ⟨rfl, m8, h8⟩; have B8 : Below wr.heap.size wr w8 := (by rw [h8]; exact below_drewN B7 m8); clear h8))
                        go_roundg (R.length - (i + 1))
                        case measure => omega
                        case rel => exact ⟨i + 1, by omega, rfl, by go_num, below_then BQ B8⟩
                      · go_wp2_with (first
                          | (go_at_call 15; refine G.mono ?_; clear G; rintro e w5 ⟨rfl, hw5⟩; replace hw5 := hw5.symm; subst hw5)
                          | (at_builtin; refine wpList_append_own _ rfl _ _ 23 rfl wr.heap.size 3 i0 (.int .i64 0) 1 8 Try.underlying23 hi0 hz0 hz1 hz2 rfl (by decide) _ 0 [] rfl O0 ⟨b, 0, none⟩ n c (A.map (Value.int .i64)) rfl hlm hvals (ints_oneCell _ _) (by unfold maxLen; omega) (by omega) (by simp) ?_; intro v1 w6 O1 G1 N1; obtain ⟨g1, c1, O2, B6, rfl⟩ := HP1.out v1 w6 O1 G1 N1; clear O1 G1 N1; have O3 := O2.keep (fun x hx => (below_alloc w6 (.cells #[.int .i64 1, .int .i64 2] 3)).block x (World.ownsRow.lt O2 x hx).2); have z6 := B6.size)
                          | (at_builtin; refine wpList_append_own _ rfl _ _ 23 rfl wr.heap.size 3 i0 (.int .i64 0) 1 8 Try.underlying23 hi0 hz0 hz1 hz2 rfl (by decide) _ n (A.map (Value.int .i64)) rfl O3 ⟨w6.heap.size, 0, none⟩ 2 2 ([1, 2].map (Value.int .i64)) rfl rfl (lit2_vals w6) (ints_oneCell _ _) (by unfold maxLen; omega) (by omega) (by simp; omega) ?_; intro v2 w7 O4 G4 N4; obtain ⟨g2, c2, O5, B7, rfl⟩ := HP2.out w6 _ v2 w7 B6 O3 O4 G4 N4; clear O4 G4 N4; have LG := HLG.out g2 c2 w7 O5 B7)
                          | (go_at_call 16; refine LG.mono ?_; clear LG; rintro e w8 ⟨rfl, m8, h8⟩; have B8 : Below wr.heap.size wr w8 := (by rw [h8]; exact below_drewN B7 m8); clear h8))
                        go_roundg (R.length - (i + 1))
                        case measure => omega
                        case rel => exact ⟨i + 1, by omega, rfl, by go_num, below_then BQ B8⟩
                  case neg =>
                    obtain rfl : i = R.length := by omega
                    have AW := awake_any wr
                    clear RR0
                    have HCS : Hid (∀ W, Below wr.heap.size wr W → Calls Try.prog 18 #[.slice a9 E8.length c9, .slice a11 E10.length c11] W fun e w' => e = .returned (.bool true) ∧ ∃ m, w' = W.drewN m) := fun W hW => same_yes2 W _ _ _ _ _ _ _ _ (HY.out.below hW) (HYb.out.below hW) HEQ.out l8 (fun e he => Nat.le_trans (q8 e he) (by omega))
                    clear HY HYb HD
                    go_wp2_with (first
                      | (go_at_call 8; refine AW.mono ?_; clear AW; rintro e w7 ⟨rfl, B7⟩; have CS := HCS.out w7 B7)
                      | (go_at_call 18; refine CS.mono ?_; clear CS; rintro e w8 ⟨rfl, m8, h8⟩; have B8 : Below w7.heap.size w7 w8 := (by rw [h8]; exact below_drewN (Below.refl _ _) m8); clear h8))
                    go_ret
                    exact ⟨rfl, below_then (below_then HBQ.out B7) B8⟩
end Go.Proofs.Ytomfkdaaimhmkaa
