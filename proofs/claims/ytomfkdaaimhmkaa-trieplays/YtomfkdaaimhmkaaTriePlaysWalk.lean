/- TriePlays' walk: behind any calls just the rows are there that the document says. -/
import Derived.Test.YtomfkdaaimhmkaaTPlay
import Derived.Test.YtomfkdaaimhmkaaTView3
import Derived.Deep.CutRange
import Derived.Deep.CutBlock
namespace Go.Proofs.Ytomfkdaaimhmkaa
open Go.ChangeShapes Go.WideShapes Go.ChangeAt Go.RowKit Go.Maps
theorem EO.lt {T : TypeId} {w : World} {B : Nat} {v : Value} {E : List RE} (h : EO T w B v E) {x : Nat} (hx : ins v E x) : B ≤ x ∧ x < w.heap.size := by
  rcases hx with a | ⟨e, he, a⟩
  · exact World.ownsRow.lt h.row x a
  · exact World.ownsRow.lt (h.own e he) x a
theorem EO.keep {T : TypeId} {w w' : World} {B : Nat} {v : Value} {E : List RE} (h : EO T w B v E) (hb : ∀ x, ins v E x → w'.heap[x]? = w.heap[x]?) : EO T w' B v E :=
  ⟨ownsRow_keep h.row (fun x hx => hb x (Or.inl hx)), fun e he => (h.own e he).keep (fun x hx => hb x (Or.inr ⟨e, he, hx⟩)), h.sm⟩
/-- A trie beside the document's rows. -/
structure PS (w0 wr : World) (S : TS) (vl : List Int → Option Int) (N c : Nat) (ao : Option Addr) (cl : Nat) (E : List RE) : Prop where
  ta : TA wr w0.heap.size w0.heap.size S vl N c
  eo : EO 54 wr w0.heap.size (.slice ao E.length cl) E
  rows : RowsOf vl [] (E.map (·.2))
  ap : ∀ x, ins (.slice ao E.length cl) E x → ¬ S.has x
  bel : Below w0.heap.size w0 wr
theorem PS.below {w0 wr w' : World} {S : TS} {vl : List Int → Option Int} {N c cl : Nat} {ao : Option Addr} {E : List RE} (h : PS w0 wr S vl N c ao cl E) (hb : Below wr.heap.size wr w') : PS w0 w' S vl N c ao cl E :=
  ⟨h.ta.below hb, h.eo.below hb, h.rows, h.ap, h.bel.trans (hb.mono h.bel.size)⟩
theorem PS.len {w0 wr : World} {S : TS} {vl : List Int → Option Int} {N c cl : Nat} {ao : Option Addr} {E : List RE} (h : PS w0 wr S vl N c ao cl E) : E.length = c := rows_len h.ta h.rows
theorem PS.short {w0 wr : World} {S : TS} {vl : List Int → Option Int} {N c cl : Nat} {ao : Option Addr} {E : List RE} (h : PS w0 wr S vl N c ao cl E) : ∀ e ∈ E, e.2.1.length ≤ 1000 := fun e he => by
  have hv := ((h.rows.2 e.2.1 e.2.2).1 (List.mem_map.2 ⟨e, he, rfl⟩)).2
  have := h.ta.dp _ (h.ta.ti.vnd _ (by rw [h.ta.vv, hv]; simp))
  omega
/-- The trie goes on; the rows stay. -/
theorem PS.turn {w0 wr w' : World} {S S' : TS} {vl vl' : List Int → Option Int} {N c N' c' cl k : Nat} {ao : Option Addr} {E : List RE} (h : PS w0 wr S vl N c ao cl E) (O : Own S wr S' w' k) (_T : TA w' w0.heap.size w0.heap.size S' vl' N' c') (Bw : Below w0.heap.size wr w') : EO 54 w' w0.heap.size (.slice ao E.length cl) E ∧ (∀ x, ins (.slice ao E.length cl) E x → ¬ S'.has x) ∧ Below w0.heap.size w0 w' :=
  ⟨h.eo.keep (fun x hx => O.kept x (h.eo.lt hx).2 (h.ap x hx)), fun x h1 h2 => by
    rcases O.mine x h2 with a | a
    · exact h.ap x h1 a
    · have := (h.eo.lt h1).2; omega, h.bel.trans Bw⟩
theorem PS.make {w0 w' w2 : World} {S : TS} {vl : List Int → Option Int} {N c : Nat} {v : Value} {E : List RE} {ao : Option Addr} {cl : Nat} {E2 : List RE} (T : TA w' w0.heap.size w0.heap.size S vl N c) (ap : ∀ x, ins v E x → ¬ S.has x) (bel : Below w0.heap.size w0 w') (eo : EO 54 w2 w0.heap.size (.slice ao E2.length cl) E2) (hin : ∀ x, ins (.slice ao E2.length cl) E2 x → ins v E x ∨ w'.heap.size ≤ x) (hb : Below w'.heap.size w' w2) (hr : RowsOf vl [] (E2.map (·.2))) : PS w0 w2 S vl N c ao cl E2 :=
  ⟨T.below hb, eo, hr, fun x h1 h2 => by
    rcases hin x h1 with a | a
    · exact ap x a h2
    · have := T.has_lt h2; omega, bel.trans (hb.mono bel.size)⟩
set_option maxRecDepth 100000 in
set_option maxHeartbeats 16000000 in
theorem triePlays_walk (a0 : Option Addr) (n0 c0 : Nat) (Z0 : Nat → AZ) (a1 : Option Addr) (n1 c1 : Nat) (Z1 : List Int) (w : World) (G0 : AZsAt w a0 n0 Z0) (G1 : IArg w a1 n1 c1 Z1) :
   Calls Try.prog 3 #[.slice a0 n0 c0, .slice a1 n1 c1] w fun e w' => e = .returned (.bool true) ∧ Below w.heap.size w w' := by
  have hm0 := G0.max
  obtain ⟨S0, T0, hS0⟩ := ta_newB w w.heap.size (Nat.le_refl _)
  have B1 := (below_alloc w (.cells #[.map none, .bool false, .int .i64 0, .int .i64 0] 28)).alloc (by simp) (.cells #[] 54)
  have e1 : (w.alloc (.cells #[.map none, .bool false, .int .i64 0, .int .i64 0] 28)).heap.size = w.heap.size + 1 := by simp
  have P1 : PS w ((w.alloc (.cells #[.map none, .bool false, .int .i64 0, .int .i64 0] 28)).alloc (.cells #[] 54)) S0 (fun _ => none) 0 0 (some ⟨w.heap.size + 1, 0, none⟩) 0 [] := by
    have h := World.ownsRow_made (w.alloc (.cells #[.map none, .bool false, .int .i64 0, .int .i64 0] 28)) (base := w.heap.size) (e := 54) (size := 2) #[] 0 (by simp) (by decide) rfl
    rw [e1] at h
    refine ⟨T0.below (below_alloc _ _), ⟨h, fun e he => (by cases he), fun e he => (by cases he)⟩, ⟨List.Pairwise.nil, fun q v => ⟨fun h => (by cases h), fun h => (by cases h.2)⟩⟩, fun x hx hs => ?_, B1⟩
    have e2 := hS0 x hs
    rcases hx with a | ⟨e, he, _⟩
    · have : w.heap.size + 1 = x := Option.some.inj a
      omega
    · cases he
  have hs1 : Hid (Sm (Z1.take 140)) := G1.take_small 140
  have hZl1 : (Z1.take 140).length ≤ 140 := by rw [List.length_take]; omega
  have F1 := few8_any a1 n1 c1 Z1 140 _ (G1.below B1) (by omega)
  have AW := fun W : World => awake_any W
  clear T0 e1
  generalize (Z1.take 140) = AK at *
  obtain ⟨na, hna⟩ : ∃ na, na = AK.length := ⟨_, rfl⟩
  rw [← hna] at F1 hZl1
  have hna' : Hid (na = AK.length) := hna
  clear hna B1
  go_enter Try.func3, Try.ntmps3
  go_wp2_with (first
    | (go_at_call 7; refine F1.mono ?_; clear F1; rintro e w2 ⟨ba, cak, rfl, OA, B2⟩; have P2 := P1.below B2)
    | (go_at_call 8; refine (AW _).mono ?_; rintro e w3 ⟨rfl, B3⟩; have P3 := P2.below B3; have OA3 := OA.keep (fun x hx => B3.block x (World.ownsRow.lt OA x hx).2)))
  have hba : Hid (¬ S0.has ba) := fun h => by have h1 := (World.ownsRow.lt OA ba rfl).1; have h2 := P1.ta.has_lt h; omega
  have OA4 : IOwn w3 w.heap.size (.slice (some ⟨ba, 0, none⟩) na cak) na AK := ownsRow_mono OA3 P1.bel.size
  clear OA OA3 P1 P2 B2 B3 AW
  go_loopg [6, 7] n0 (fun r s6 s7 wr => ∃ (i : Nat) (S : TS) (vl : List Int → Option Int) (N c : Nat) (ao : Option Addr) (cl : Nat) (E : List RE), i ≤ n0 ∧ i ≤ 40 ∧ r = n0 - i ∧ s7 = .int .i64 (i : Int) ∧ s6 = .slice ao E.length cl ∧ N ≤ 140 * i ∧ c ≤ i ∧ PS w wr S vl N c ao cl E ∧ IOwn wr w.heap.size (.slice (some ⟨ba, 0, none⟩) na cak) na AK ∧ Hid (¬ S.has ba))
  case atStart => exact ⟨0, S0, _, 0, 0, _, 0, [], by omega, by omega, by omega, rfl, rfl, by omega, by omega, P3, OA4, hba⟩
  case round =>
    clear P3 OA4 hba
    obtain ⟨i, S, vl, N, c, ao, cl, E, hi, hi40, rfl, rfl, rfl, hN, hc, PW, OK, hba⟩ := hrel
    by_cases hgo : i < n0 ∧ i < 40
    case neg =>
      have hx : n0 ≤ i ∨ (i < n0 ∧ 40 ≤ i) := by omega
      have BF := PW.bel
      clear PW OK G0 G1 hgo
      go_upto_region 7 with fail
      go_cut [35] from 28 to 35 (fun s wc => s = .bool false ∧ wc = wr)
      case first =>
        rcases hx with hx | ⟨hx, hx2⟩
        · have hxn : ¬ i < n0 := by omega
          have hxd : decide (i < n0) = false := decide_eq_false hxn
          go_wp2_with fail
          go_meet
          case rel => exact ⟨rfl, rfl⟩
        · go_wp2_with fail
          go_meet
          case rel => exact ⟨congrArg Value.bool (decide_eq_false (by omega)), rfl⟩
      case rest =>
        obtain ⟨rfl, hwc⟩ := hcut
        replace hwc := hwc.symm
        subst hwc
        go_wp2_with fail
        go_ret
        exact ⟨rfl, BF⟩
    case pos =>
      obtain ⟨hl1, hl2⟩ := hgo
      obtain ⟨b, o, rfl, hcl⟩ := G0.cells (by omega)
      obtain ⟨hZ, q0, q1, q2⟩ := hcl i hl1
      have hlt : b < w.heap.size := by simpa using World.block_lt_of_cell? w _ q0
      have y0 : wr.cell? ⟨b, o + i * 3, none⟩ = some (.int .i64 (Z0 i).kind) := by rw [PW.bel.cell (by exact hlt)]; exact q0
      have y1 : wr.cell? ⟨b, o + i * 3 + 1, none⟩ = some (.slice (Z0 i).ao (Z0 i).n (Z0 i).ca) := by rw [PW.bel.cell (by exact hlt)]; exact q1
      have y2 : wr.cell? ⟨b, o + i * 3 + 2, none⟩ = some (.int .i64 (Z0 i).val) := by rw [PW.bel.cell (by exact hlt)]; exact q2
      have BV := below_alloc wr (.cells #[.int .i64 (Z0 i).kind, .slice (Z0 i).ao (Z0 i).n (Z0 i).ca, .int .i64 (Z0 i).val] 33)
      have z0 : (wr.alloc (.cells #[.int .i64 (Z0 i).kind, .slice (Z0 i).ao (Z0 i).n (Z0 i).ca, .int .i64 (Z0 i).val] 33)).cell? ⟨wr.heap.size, 0, none⟩ = some (.int .i64 (Z0 i).kind) := by rw [World.cell?_alloc_at _ _ _ _ (by simp)]; rfl
      have z2 : (wr.alloc (.cells #[.int .i64 (Z0 i).kind, .slice (Z0 i).ao (Z0 i).n (Z0 i).ca, .int .i64 (Z0 i).val] 33)).cell? ⟨wr.heap.size, 2, none⟩ = some (.int .i64 (Z0 i).val) := by rw [World.cell?_alloc_at _ _ _ _ (by simp)]; rfl
      have zs : wr.heap.size < (wr.alloc (.cells #[.int .i64 (Z0 i).kind, .slice (Z0 i).ao (Z0 i).n (Z0 i).ca, .int .i64 (Z0 i).val] 33)).heap.size := by simp
      have F := few8_any _ _ _ _ 140 _ (hZ.tok.below (PW.below BV).bel) (by omega)
      have hs : Hid (Sm ((Z0 i).A.take 140)) := hZ.tok.take_small 140
      have hZl : ((Z0 i).A.take 140).length ≤ 140 := by rw [List.length_take]; omega
      have PV := PW.below BV
      have OV := OK.keep (fun x hx => BV.block x (World.ownsRow.lt OK x hx).2)
      have hSlt : Hid (∀ x, S.has x → x < wr.heap.size) := fun x hx => PW.ta.has_lt hx
      clear hcl q0 q1 q2 PW OK hZ
      generalize ((Z0 i).A.take 140) = A at *
      obtain ⟨n, hn⟩ : ∃ n, n = A.length := ⟨_, rfl⟩
      rw [← hn] at F hZl
      have hn' : Hid (n = A.length) := hn
      clear hn
      generalize (Z0 i).kind = kd at *
      generalize (Z0 i).val = vv at *
      generalize (Z0 i).ao = ad at *
      generalize (Z0 i).n = ln at *
      generalize (Z0 i).ca = cp0 at *
      go_upto_block 2 with (go_at_call 7; refine F.mono ?_; clear F; rintro e w2 ⟨br, cr, rfl, OR, B2⟩; have y3 : w2.cell? ⟨wr.heap.size, 0, none⟩ = some (.int .i64 kd) := (by rw [B2.cell (by exact zs)]; exact z0); have y5 : w2.cell? ⟨wr.heap.size, 2, none⟩ = some (.int .i64 vv) := (by rw [B2.cell (by exact zs)]; exact z2); have P2 := PV.below B2; have OK2 := OV.keep (fun x hx => B2.block x (World.ownsRow.lt OV x hx).2))
      have hbr : ∀ x, (Value.slice (some ⟨br, 0, none⟩) n cr).ownBlock = some x → ¬ S.has x := fun x hx h => by
        have e : br = x := Option.some.inj hx
        have h1 := (World.ownsRow.lt OR br rfl).1
        have h2 := hSlt.out x h
        omega
      have hbk : ∀ x, (Value.slice (some ⟨ba, 0, none⟩) na cak).ownBlock = some x → ¬ S.has x := fun x hx h => by
        have e : ba = x := Option.some.inj hx
        exact hba.out (e ▸ h)
      have TKR : Tk w2 (some ⟨br, 0, none⟩) n A := OR.tk hs.out (by omega)
      have HFS : Hid (1 ≤ n → ∀ b' o', (some ⟨br, 0, none⟩ : Option Addr) = some ⟨b', o', none⟩ → w2.cell? ⟨b', 0, none⟩ = some (.int .i64 (A.getD 0 0))) := fun h => OR.first hs.out h
      obtain ⟨ft1, ft2⟩ := OR.fit hs.out
      have HP2 : Hid (PS w w2 S vl N c ao cl E) := P2
      have HOR : Hid (IOwn w2 (wr.alloc (.cells #[.int .i64 kd, .slice ad ln cp0, .int .i64 vv] 33)).heap.size (.slice (some ⟨br, 0, none⟩) n cr) n A) := OR
      have HOK : Hid (IOwn w2 w.heap.size (.slice (some ⟨ba, 0, none⟩) na cak) na AK) := OK2
      have HBR : Hid (∀ x, (Value.slice (some ⟨br, 0, none⟩) n cr).ownBlock = some x → ¬ S.has x) := hbr
      have HBK : Hid (∀ x, (Value.slice (some ⟨ba, 0, none⟩) na cak).ownBlock = some x → ¬ S.has x) := hbk
      have HTK : Hid (Tk w2 (some ⟨br, 0, none⟩) n A) := TKR
      have hEl := P2.len
      have hE1 : E.length ≤ 40 := by omega
      have HEL : Hid (E.length = c) := hEl
      have IAR : Hid (∀ W, IOwn W (wr.alloc (.cells #[.int .i64 kd, .slice ad ln cp0, .int .i64 vv] 33)).heap.size (.slice (some ⟨br, 0, none⟩) n cr) n A → IArg W (some ⟨br, 0, none⟩) n cr A) := fun W h => by
        obtain ⟨ao', c', e', hAr⟩ := h.arg hs.out
        injection e' with e1 _ e3
        subst e1 e3
        exact hAr
      have hseq : Hid (PS w w2 S vl N c ao cl E → ∀ e ∈ E, e.2.1.length ≤ 1000) := fun h => h.short
      have hsh : Hid (∀ e ∈ E, e.2.1.length ≤ 1000) := P2.short
      clear hbr hbk TKR P2 OR OK2 PV OV BV z0 z2 zs hEl hseq hba y0 y1 y2 B2 G1
      go_cut [6, 10, 11, 12, 13, 14, 15] from 28 to 101 (fun s6 _ _ _ _ _ _ wc => ∃ (S' : TS) (vl' : List Int → Option Int) (N' c' : Nat) (ao' : Option Addr) (cl' : Nat) (E' : List RE), s6 = .slice ao' E'.length cl' ∧ N' ≤ N + 140 ∧ c' ≤ c + 1 ∧ PS w wc S' vl' N' c' ao' cl' E' ∧ IOwn wc w.heap.size (.slice (some ⟨ba, 0, none⟩) na cak) na AK ∧ Hid (¬ S'.has ba))
      case first =>
        by_cases k1 : kd = 1
        · subst k1
          by_cases hn0 : n = 0
          · subst hn0
            have P := put_none cr (some ⟨br, 0, none⟩) vv w.heap.size w2
            have R := fun W : World => put13_none (.slice ao E.length cl) (some ⟨br, 0, none⟩) cr vv W
            go_wp2_with (first
              | (go_at_call 9; refine P.mono ?_; clear P; rintro e w3 ⟨rfl, hw⟩; replace hw := hw.symm; subst hw)
              | (go_at_call 10; refine (R _).mono ?_; clear R; rintro e w4 ⟨rfl, hw⟩; replace hw := hw.symm; subst hw))
            go_meet
            case rel => exact ⟨S, vl, N, c, ao, cl, E, rfl, by omega, by omega, HP2.out, HOK.out, fun h => HBK.out ba rfl h⟩
          by_cases hnb : 128 < n
          · have P := put_big n cr (some ⟨br, 0, none⟩) vv w.heap.size w2 hnb (by omega)
            have R := fun W : World => put13_big (.slice ao E.length cl) (some ⟨br, 0, none⟩) n cr vv W hnb (by omega)
            go_wp2_with (first
              | (go_at_call 9; refine P.mono ?_; clear P; rintro e w3 ⟨rfl, hw⟩; replace hw := hw.symm; subst hw)
              | (go_at_call 10; refine (R _).mono ?_; clear R; rintro e w4 ⟨rfl, hw⟩; replace hw := hw.symm; subst hw))
            go_meet
            case rel => exact ⟨S, vl, N, c, ao, cl, E, rfl, by omega, by omega, HP2.out, HOK.out, fun h => HBK.out ba rfl h⟩
          rcases hv0 : vl A with _ | x0
          · have hv : Hid (vl A = none) := hv0
            have P := put_new (some ⟨br, 0, none⟩) n cr A vv w2 _ _ _ _ S vl HP2.out.ta HTK.out (HFS.out (by omega)) (by omega) (by omega) hv0 (by omega) (by omega)
            have HR : Hid (∀ w3 S3, TA w3 w.heap.size w.heap.size S3 (upd vl A (some vv)) (N + n) (c + 1) → Own S w2 S3 w3 128 → Below w.heap.size w2 w3 → Calls Try.prog 10 #[.slice ao E.length cl, .slice (some ⟨br, 0, none⟩) n cr, .int .i64 vv] w3 fun e w' => ∃ a' c' E', e = .returned (.tuple #[.slice a' (List.length E') c', .bool true, .int .i64 0]) ∧ PS w w' S3 (upd vl A (some vv)) (N + n) (c + 1) a' c' E' ∧ IOwn w' w.heap.size (.slice (some ⟨ba, 0, none⟩) na cak) na AK ∧ ¬ S3.has ba) := fun w3 S3 T3 O3 B3 => (by
              obtain ⟨eo3, ap3, bel3⟩ := HP2.out.turn O3 T3 B3
              obtain ⟨OR3, _⟩ := HOR.out.beside HBR.out O3
              obtain ⟨OK3, nK3⟩ := HOK.out.beside HBK.out O3
              refine (put13_new w3 w.heap.size cl n cr ao _ E A vv eo3 (IAR.out _ OR3) (by omega) bel3.size hsh.out (by omega) (by omega) (rows_no HP2.out.rows hv.out)).mono ?_
              rintro e w4 hpn
              unfold PutNew at hpn
              obtain ⟨a', c', cv, p, rfl, eo4, l1, l2, bl, B4⟩ := hpn
              have el : (E.take p ++ [(cv, A, vv)] ++ E.drop p).length = E.length + 1 := (by simp only [List.length_append, List.length_take, List.length_drop, List.length_cons, List.length_nil]; omega)
              have hmp : (E.take p ++ [(cv, A, vv)] ++ E.drop p).map (·.2) = (E.map (·.2)).take p ++ [(A, vv)] ++ (E.map (·.2)).drop p := (by simp [List.map_take, List.map_drop])
              refine ⟨a', c', E.take p ++ [(cv, A, vv)] ++ E.drop p, (by rw [el]), PS.make T3 ap3 bel3 (by rw [el]; exact eo4) (fun x hx => ?_) B4 ?_, OK3.keep (fun x hx => B4.block x (World.ownsRow.lt OK3 x hx).2), nK3 ba rfl⟩
              · rw [el] at hx
                rcases hx with h1 | ⟨e, he, h1⟩
                · exact Or.inr (bl x (Or.inl h1))
                · rcases List.mem_append.1 he with h2 | h2
                  · rcases List.mem_append.1 h2 with h3 | h3
                    · exact Or.inl (Or.inr ⟨e, List.mem_of_mem_take h3, h1⟩)
                    · rw [List.mem_singleton] at h3; rw [h3] at h1; exact Or.inr (bl x (Or.inr h1))
                  · exact Or.inl (Or.inr ⟨e, List.mem_of_mem_drop h2, h1⟩)
              · rw [hmp]
                refine rows_ins HP2.out.rows hv.out (fun e he => ?_) (fun hp => ?_)
                · rw [← List.map_take] at he
                  obtain ⟨e2, he2, rfl⟩ := List.mem_map.1 he
                  exact l1 e2 he2
                · rw [List.length_map] at hp
                  rw [List.getElem_map]; exact l2 hp)
            clear hv0
            go_wp2_with (first
              | (go_at_call 9; refine P.mono ?_; clear P; rintro e w3 ⟨rfl, ⟨S3, T3, O3⟩, B3⟩; have R := HR.out w3 S3 T3 O3 B3; have y6 : w3.cell? ⟨wr.heap.size, 2, none⟩ = some (.int .i64 vv) := (by rw [World.cell?_of_block (w := w2) (a := ⟨wr.heap.size, 2, none⟩) (O3.kept wr.heap.size (cell_lt y5) (fun h => (by have := hSlt.out _ h; omega)))]; exact y5))
              | (go_at_call 10; refine R.mono ?_; clear R; rintro e w4 ⟨a', c', E', rfl, PW', OK', nk'⟩))
            go_meet
            case rel => exact ⟨S3, _, N + n, c + 1, a', c', E', rfl, by omega, by omega, PW', OK', nk'⟩
          · have hv : Hid (vl A = some x0) := hv0
            have P := put_there (some ⟨br, 0, none⟩) n cr A vv x0 w2 _ _ _ _ S vl HP2.out.ta HTK.out (by omega) (by omega) hv0
            have HR : Hid (∀ w3 S3, TA w3 w.heap.size w.heap.size S3 (upd vl A (some vv)) N c → Own S w2 S3 w3 128 → Below w.heap.size w2 w3 → Calls Try.prog 10 #[.slice ao E.length cl, .slice (some ⟨br, 0, none⟩) n cr, .int .i64 vv] w3 fun e w' => ∃ a' c' E', e = .returned (.tuple #[.slice a' (List.length E') c', .bool false, .int .i64 0]) ∧ PS w w' S3 (upd vl A (some vv)) N c a' c' E' ∧ IOwn w' w.heap.size (.slice (some ⟨ba, 0, none⟩) na cak) na AK ∧ ¬ S3.has ba) := fun w3 S3 T3 O3 B3 => (by
              obtain ⟨eo3, ap3, bel3⟩ := HP2.out.turn O3 T3 B3
              obtain ⟨OR3, _⟩ := HOR.out.beside HBR.out O3
              obtain ⟨OK3, nK3⟩ := HOK.out.beside HBK.out O3
              obtain ⟨k, hk, ek⟩ := rows_at HP2.out.rows hv.out
              refine (put13_there w3 w.heap.size cl n cr k ao _ E A vv eo3 (IAR.out _ OR3) (by omega) bel3.size hsh.out (by omega) (by omega) hk ek (rows_dist HP2.out.rows)).mono ?_
              rintro e w4 ⟨a', c', cv, rfl, eo4, bl, B4⟩
              have el : (E.set k (cv, A, vv)).length = E.length := List.length_set ..
              refine ⟨a', c', E.set k (cv, A, vv), (by rw [el]), PS.make T3 ap3 bel3 (by rw [el]; exact eo4) (fun x hx => ?_) B4 ?_, OK3.keep (fun x hx => B4.block x (World.ownsRow.lt OK3 x hx).2), nK3 ba rfl⟩
              · rw [el] at hx
                rcases hx with h1 | ⟨e, he, h1⟩
                · exact Or.inr (bl x (Or.inl h1))
                · rcases List.mem_or_eq_of_mem_set he with h3 | h3
                  · exact Or.inl (Or.inr ⟨e, h3, h1⟩)
                  · rw [h3] at h1; exact Or.inr (bl x (Or.inr h1))
              · rw [List.map_set]
                exact rows_set HP2.out.rows (by rw [List.length_map]; exact hk) (by rw [List.getElem_map]; exact ek))
            clear hv0
            go_wp2_with (first
              | (go_at_call 9; refine P.mono ?_; clear P; rintro e w3 ⟨rfl, ⟨S3, T3, O3⟩, B3⟩; have R := HR.out w3 S3 T3 O3 B3; have y6 : w3.cell? ⟨wr.heap.size, 2, none⟩ = some (.int .i64 vv) := (by rw [World.cell?_of_block (w := w2) (a := ⟨wr.heap.size, 2, none⟩) (O3.kept wr.heap.size (cell_lt y5) (fun h => (by have := hSlt.out _ h; omega)))]; exact y5))
              | (go_at_call 10; refine R.mono ?_; clear R; rintro e w4 ⟨a', c', E', rfl, PW', OK', nk'⟩))
            go_meet
            case rel => exact ⟨S3, _, N, c, a', c', E', rfl, by omega, by omega, PW', OK', nk'⟩
        by_cases k2 : kd = 2
        · subst k2
          have HW : Hid (∀ w3 S3 vl3 c3, TA w3 w.heap.size w.heap.size S3 vl3 N c3 → Own S w2 S3 w3 128 → Below w.heap.size w2 w3 → upd vl A none = vl3 → Calls Try.prog 12 #[.slice ao E.length cl, .slice (some ⟨br, 0, none⟩) n cr] w3 fun e w4 => ∃ r : Int, e = .returned (.int .i64 r) ∧ FindN E A r ∧ Calls Try.prog 13 #[.slice ao E.length cl, .slice (some ⟨br, 0, none⟩) n cr, .bool false, .int .i64 0] w4 fun e w' => ∃ a' c' E', e = .returned (.slice a' (List.length E') c') ∧ PS w w' S3 vl3 N c3 a' c' E' ∧ IOwn w' w.heap.size (.slice (some ⟨ba, 0, none⟩) na cak) na AK ∧ ¬ S3.has ba) := fun w3 S3 vl3 c3 T3 O3 B3 hvl => (by
            obtain ⟨eo3, ap3, bel3⟩ := HP2.out.turn O3 T3 B3
            obtain ⟨OR3, _⟩ := HOR.out.beside HBR.out O3
            obtain ⟨OK3, nK3⟩ := HOK.out.beside HBK.out O3
            refine (find13_any w3 w.heap.size cl n cr ao _ E A eo3 (IAR.out _ OR3) (by omega) hsh.out (by omega)).mono ?_
            rintro e w4 ⟨r, rfl, hr, B4⟩
            refine ⟨r, rfl, hr, ?_⟩
            have bel4 := bel3.trans (B4.mono bel3.size)
            refine (without_row w4 w.heap.size cl ao E n cr _ A (eo3.below B4) (by omega) bel4.size ((IAR.out _ OR3).below B4) hsh.out (by omega) (rows_dist HP2.out.rows)).mono ?_
            rintro e w5 ⟨a', c', rfl, eo5, bl, B5⟩
            refine ⟨a', c', _, rfl, PS.make (T3.below B4) ap3 bel4 eo5 (fun x hx => ?_) B5 (by rw [map_filter_row, ← hvl]; exact rows_row HP2.out.rows), (OK3.keep (fun x hx => B4.block x (World.ownsRow.lt OK3 x hx).2)).keep (fun x hx => B5.block x (Nat.lt_of_lt_of_le (World.ownsRow.lt OK3 x hx).2 B4.size)), nK3 ba rfl⟩
            rcases hx with h1 | ⟨e, he, h1⟩
            · exact Or.inr (bl x h1)
            · exact Or.inl (Or.inr ⟨e, (List.mem_filter.1 he).1, h1⟩))
          rcases hv0 : vl A with _ | x0
          · have hv : Hid (vl A = none) := hv0
            have D := drop_none (some ⟨br, 0, none⟩) n cr A w2 _ _ _ _ S vl HP2.out.ta HTK.out hv0
            have hup : Hid (upd vl A none = vl) := funext fun q => (by by_cases e : q = A; (rw [e, upd_same, hv.out]); (rw [upd_other _ _ e]))
            clear hv0
            go_wp2_with (first
              | (go_at_call 11; refine D.mono ?_; clear D; rintro e w3 ⟨rfl, hw⟩; replace hw := hw.symm; subst hw; have CF := HW.out w2 S _ _ HP2.out.ta (Own.refl _ _ _) (Below.refl _ _) hup.out)
              | (go_at_call 12; refine CF.mono ?_; clear CF; rintro e w4 ⟨r, rfl, hr, CW⟩; have hr1 : r = -1 := (by rcases find_tells HP2.out.rows hr with ⟨_, h2⟩ | ⟨v9, k9, h1, _, _⟩; (exact h2); (rw [hv.out] at h1; cases h1)); subst hr1; clear hr)
              | (go_at_call 13; refine CW.mono ?_; clear CW; rintro e w5 ⟨a', c', E', rfl, PW', OK', nk'⟩))
            go_meet
            case rel => exact ⟨_, _, N, _, a', c', E', rfl, by omega, by omega, PW', OK', nk'⟩
          · have hv : Hid (vl A = some x0) := hv0
            have D := drop_some (some ⟨br, 0, none⟩) n cr A x0 w2 _ _ _ _ S vl HP2.out.ta HTK.out ft1 ft2 (fun b' o' e h => HBR.out b' (by rw [e]; rfl) h) (by omega) hv0
            clear hv0
            go_wp2_with (first
              | (go_at_call 11; refine D.mono ?_; clear D; rintro e w3 ⟨rfl, ⟨S3, T3, O3⟩, B3⟩; have CF := HW.out w3 S3 _ _ T3 O3 B3 rfl)
              | (go_at_call 12; refine CF.mono ?_; clear CF; rintro e w4 ⟨r, rfl, hr, CW⟩; obtain ⟨k9, hk9⟩ : ∃ k9 : Nat, r = (k9 : Int) := (by rcases find_tells HP2.out.rows hr with ⟨h1, _⟩ | ⟨v9, k9, _, h2, _⟩; (rw [hv.out] at h1; cases h1); (exact ⟨k9, h2⟩)); subst hk9; clear hr)
              | (go_at_call 13; refine CW.mono ?_; clear CW; rintro e w5 ⟨a', c', E', rfl, PW', OK', nk'⟩))
            go_meet
            case rel => exact ⟨_, _, N, _, a', c', E', rfl, by omega, by omega, PW', OK', nk'⟩
        by_cases k3 : kd = 3
        · subst k3
          have CW := without_val w2 w.heap.size cl ao E vv HP2.out.eo (by omega) HP2.out.bel.size
          have HD : Hid (∀ a' c' w3, EO 54 w3 w.heap.size (.slice a' (E.filter (fun e => decide (e.2.2 ≠ vv))).length c') (E.filter (fun e => decide (e.2.2 ≠ vv))) → (∀ x, (Value.slice a' (E.filter (fun e => decide (e.2.2 ≠ vv))).length c').ownBlock = some x → w2.heap.size ≤ x) → Below w2.heap.size w2 w3 → Calls Try.prog 14 #[.pointer (some ⟨w.heap.size, 0, none⟩), .int .i64 vv] w3 fun e w' => ∃ (k : Nat) (S3 : TS) (vl3 : List Int → Option Int) (c3 : Nat), e = .returned (.int .i64 (k : Int)) ∧ k + (E.filter (fun e => decide (e.2.2 ≠ vv))).length = E.length ∧ c3 ≤ c ∧ PS w w' S3 vl3 N c3 a' c' (E.filter (fun e => decide (e.2.2 ≠ vv))) ∧ IOwn w' w.heap.size (.slice (some ⟨ba, 0, none⟩) na cak) na AK ∧ ¬ S3.has ba) := fun a' c' w3 eo3 bl B3 => (by
            have P3 := HP2.out.below B3
            refine (dropv_any w3 _ _ _ _ S vl vv P3.ta (by omega)).mono ?_
            rintro e w4 ⟨k, S4, rfl, hk, T4, O4, B4⟩
            have apF : ∀ x, ins (.slice a' (E.filter (fun e => decide (e.2.2 ≠ vv))).length c') (E.filter (fun e => decide (e.2.2 ≠ vv))) x → ¬ S.has x := fun x hx h => (by
              rcases hx with h1 | ⟨e, he, h1⟩
              · have := bl x h1; have := HP2.out.ta.has_lt h; omega
              · exact HP2.out.ap x (Or.inr ⟨e, (List.mem_filter.1 he).1, h1⟩) h)
            have hrw : RowsOf (noV vl vv) [] ((E.filter (fun e => decide (e.2.2 ≠ vv))).map (·.2)) := (by rw [map_filter_val]; exact rows_val HP2.out.rows)
            have PX : PS w w4 S4 (noV vl vv) N (c - k) a' c' (E.filter (fun e => decide (e.2.2 ≠ vv))) := ⟨T4, eo3.keep (fun x hx => O4.kept x (eo3.lt hx).2 (apF x hx)), hrw, fun x hx h => (by
              rcases O4.mine x h with a | a
              · exact apF x hx a
              · have := (eo3.lt hx).2; omega), P3.bel.trans B4⟩
            have hl2 := PX.len
            have hl1 := HEL.out
            obtain ⟨OK4, nK4⟩ := (HOK.out.keep (fun x hx => B3.block x (World.ownsRow.lt HOK.out x hx).2)).beside HBK.out O4
            exact ⟨k, S4, _, c - k, rfl, by omega, by omega, PX, OK4, nK4 ba rfl⟩)
          have hfl : (E.filter (fun e => decide (e.2.2 ≠ vv))).length ≤ E.length := List.length_filter_le _ _
          generalize E.filter (fun e => decide (e.2.2 ≠ vv)) = F at *
          go_wp2_with (first
            | (go_at_call 13; refine CW.mono ?_; clear CW; rintro e w3 ⟨a', c', rfl, eo3, bl, B3⟩; have D := HD.out a' c' w3 eo3 bl B3; have y6 : w3.cell? ⟨wr.heap.size, 2, none⟩ = some (.int .i64 vv) := (by rw [B3.cell (by exact cell_lt y5)]; exact y5))
            | (go_at_call 14; refine D.mono ?_; clear D; rintro e w4 ⟨k, S3, vl3, c3, rfl, hkk, hc3, PW', OK', nk'⟩; have hke : (E.length : Int) - (F.length : Int) = (k : Int) := (by omega)))
          go_meet
          case rel => exact ⟨S3, vl3, N, c3, a', c', F, rfl, by omega, by omega, PW', OK', nk'⟩
        go_wp2_with fail
        go_meet
        case rel => exact ⟨S, vl, N, c, ao, cl, E, rfl, by omega, by omega, HP2.out, HOK.out, fun h => HBK.out ba rfl h⟩
      case rest =>
        obtain ⟨S3, vl3, N3, c3, ao3, cl3, E3, rfl, hN3, hc3, PW3, OK3, hk3⟩ := hcut
        obtain ⟨wx, hwx⟩ : ∃ x, x = wc := ⟨_, rfl⟩
        subst hwx
        have hE3 := PW3.len
        have HE3 : Hid (E3.length = c3) := hE3
        have hE4 : E3.length ≤ 41 := by omega
        clear hE3 HP2 HOR HOK HBR HBK HTK HFS IAR hsh HEL hSlt hE1 ft1 ft2 y3 y5
        have AKR : IArg wx (some ⟨ba, 0, none⟩) na cak AK := by
          obtain ⟨ao', c', e', hAr⟩ := OK3.arg hs1.out
          injection e' with e1 _ e3
          subst e1 e3
          exact hAr
        have TKK : Tk wx (some ⟨ba, 0, none⟩) na AK := OK3.tk hs1.out (by omega)
        have CG := get_any (some ⟨ba, 0, none⟩) na cak AK wx _ _ _ _ _ _ PW3.ta TKK
        have CF := find13_any wx w.heap.size cl3 na cak ao3 _ E3 AK PW3.eo AKR (by omega) PW3.short (by omega)
        have HK : Hid (∀ W, Below wx.heap.size wx W → PS w W S3 vl3 N3 c3 ao3 cl3 E3 ∧ IOwn W w.heap.size (.slice (some ⟨ba, 0, none⟩) na cak) na AK ∧ Tk W (some ⟨ba, 0, none⟩) na AK ∧ IArg W (some ⟨ba, 0, none⟩) na cak AK) := fun W hW => ⟨PW3.below hW, OK3.keep (fun x hx => hW.block x (World.ownsRow.lt OK3 x hx).2), TKK.below hW, AKR.below hW⟩
        have HKK : Hid (¬ S3.has ba) := hk3
        have hft : Hid (∀ r, FindN E3 AK r → (vl3 AK = none ∧ r = -1) ∨ ∃ v k, vl3 AK = some v ∧ r = ((k : Nat) : Int) ∧ ∃ hk : k < E3.length, E3[k].2.2 = v) := fun r hr => find_tells PW3.rows hr
        have hcell : Hid (∀ W, Below wx.heap.size wx W → ∀ k (hk : k < E3.length), ∃ g, ao3 = some ⟨g, 0, none⟩ ∧ W.cell? ⟨g, k * 2 + 1, none⟩ = some (.int .i64 E3[k].2.2)) := fun W hW k hk => by
          obtain ⟨g, e, _, hc⟩ := (PW3.below hW).eo.cells (by omega)
          exact ⟨g, e, (hc k hk).2⟩
        have hlg : Hid (∀ m v, LongN E3 AK m v → (lgN vl3 AK na).1 = m ∧ (lgN vl3 AK na).2 = v) := fun m v h => by rw [hna'.out]; exact long_tells PW3.rows h
        clear PW3 OK3 hk3 AKR TKK
        rcases hvk : vl3 AK with _ | vk
        · rw [hvk] at CG
          have HFT : Hid (∀ r, FindN E3 AK r → r = -1) := fun r hr => (by rcases hft.out r hr with ⟨_, h⟩ | ⟨v, k, h, _, _⟩; (exact h); (rw [hvk] at h; cases h))
          clear hvk hft
          go_wp2_with (first
            | (go_at_call 15; refine CG.mono ?_; clear CG; rintro e w4 ⟨rfl, hw⟩; replace hw := hw.symm; subst hw)
            | (go_at_call 12; refine CF.mono ?_; clear CF; rintro e w5 ⟨r, rfl, hr, B5⟩; have hr9 := HFT.out r hr; subst hr9; clear hr; obtain ⟨P5, O5, T5, A5⟩ := HK.out w5 B5; have CL := longest_any (some ⟨ba, 0, none⟩) na cak AK w5 _ _ _ _ _ _ P5.ta T5)
            | (go_at_call 16; refine CL.mono ?_; clear CL; rintro e w6 ⟨rfl, m6, h6⟩; have B6 : Below wx.heap.size wx w6 := (by rw [h6]; exact below_drewN B5 m6); clear h6; obtain ⟨P6, O6, T6, A6⟩ := HK.out w6 B6; have CR := long13_any w6 w.heap.size cl3 na cak ao3 _ E3 AK P6.eo A6 (by omega) P6.short (by omega))
            | (go_at_call 17; refine CR.mono ?_; clear CR; rintro e w7 ⟨m7, v7, rfl, hl7, B7⟩; obtain ⟨q7, u7⟩ := hlg.out m7 v7 hl7; clear hl7; have B67 := below_then B6 B7; obtain ⟨P7, O7, T7, A7⟩ := HK.out w7 B67; have CA := all_any w7 _ _ _ _ _ _ P7.ta (by omega))
            | (go_at_call 20; refine CA.mono ?_; clear CA; rintro e w8 ⟨ao8, c8, E8, rfl, X8, Q8, l8, q8, B8⟩; have CT := told_any w8 _ _ _ _ X8.eo l8 B8.size)
            | (go_at_call 19; refine CT.mono ?_; clear CT; rintro e w9 ⟨a9, c9, rfl, Y9, B9⟩; have B69 := below_then (below_then B67 B8) B9; obtain ⟨P9, O9, T9, A9⟩ := HK.out w9 B69; have CS := same_yes2 w9 _ _ _ _ _ _ _ _ Y9 P9.eo (rowsOf_eq Q8 P9.rows) l8 (fun e he => Nat.le_trans (q8 e he) (by omega)))
            | (go_at_call 18; refine CS.mono ?_; clear CS; rintro e w10 ⟨rfl, m10, h10⟩; have B10 : Below w9.heap.size w9 w10 := (by rw [h10]; exact below_drewN (Below.refl _ _) m10); clear h10; have BT := below_then B69 B10; obtain ⟨P10, O10, T10, A10⟩ := HK.out w10 BT; have CC := count_any w10 _ _ _ _ _ _ P10.ta; have hce : (c3 : Int) = (E3.length : Int) := (by rw [HE3.out]))
            | (go_at_call 21; refine CC.mono ?_; clear CC; rintro e w11 ⟨rfl, hw⟩; replace hw := hw.symm; subst hw))
          go_roundg (n0 - (i + 1))
          case measure => omega
          case rel => exact ⟨i + 1, S3, vl3, N3, c3, _, cl3, E3, by omega, by omega, rfl, by go_num, rfl, by omega, by omega, P10, O10, HKK⟩
        · rw [hvk] at CG
          have HFT : Hid (∀ r, FindN E3 AK r → ∃ k, ∃ hk : k < E3.length, r = ((k : Nat) : Int) ∧ E3[k].2.2 = vk) := fun r hr => (by rcases hft.out r hr with ⟨h, _⟩ | ⟨v, k, h, h2, hk, h3⟩; (rw [hvk] at h; cases h); (rw [hvk] at h; injection h with h; exact ⟨k, hk, h2, h3.trans h.symm⟩))
          clear hvk hft
          go_wp2_with (first
            | (go_at_call 15; refine CG.mono ?_; clear CG; rintro e w4 ⟨rfl, hw⟩; replace hw := hw.symm; subst hw)
            | (go_at_call 12; refine CF.mono ?_; clear CF; rintro e w5 ⟨r, rfl, hr, B5⟩; obtain ⟨k9, hk9, hr9, hv9⟩ := HFT.out r hr; subst hr9; clear hr; obtain ⟨P5, O5, T5, A5⟩ := HK.out w5 B5; have CL := longest_any (some ⟨ba, 0, none⟩) na cak AK w5 _ _ _ _ _ _ P5.ta T5)
            | (go_at_call 16; refine CL.mono ?_; clear CL; rintro e w6 ⟨rfl, m6, h6⟩; have B6 : Below wx.heap.size wx w6 := (by rw [h6]; exact below_drewN B5 m6); clear h6; obtain ⟨P6, O6, T6, A6⟩ := HK.out w6 B6; have CR := long13_any w6 w.heap.size cl3 na cak ao3 _ E3 AK P6.eo A6 (by omega) P6.short (by omega))
            | (go_at_call 17; refine CR.mono ?_; clear CR; rintro e w7 ⟨m7, v7, rfl, hl7, B7⟩; obtain ⟨q7, u7⟩ := hlg.out m7 v7 hl7; clear hl7; have B67 := below_then B6 B7; obtain ⟨P7, O7, T7, A7⟩ := HK.out w7 B67; have CA := all_any w7 _ _ _ _ _ _ P7.ta (by omega))
            | (go_at_call 20; refine CA.mono ?_; clear CA; rintro e w8 ⟨ao8, c8, E8, rfl, X8, Q8, l8, q8, B8⟩; have CT := told_any w8 _ _ _ _ X8.eo l8 B8.size)
            | (go_at_call 19; refine CT.mono ?_; clear CT; rintro e w9 ⟨a9, c9, rfl, Y9, B9⟩; have B69 := below_then (below_then B67 B8) B9; obtain ⟨P9, O9, T9, A9⟩ := HK.out w9 B69; have CS := same_yes2 w9 _ _ _ _ _ _ _ _ Y9 P9.eo (rowsOf_eq Q8 P9.rows) l8 (fun e he => Nat.le_trans (q8 e he) (by omega)))
            | (go_at_call 18; refine CS.mono ?_; clear CS; rintro e w10 ⟨rfl, m10, h10⟩; have B10 : Below w9.heap.size w9 w10 := (by rw [h10]; exact below_drewN (Below.refl _ _) m10); clear h10; have BT := below_then B69 B10; obtain ⟨P10, O10, T10, A10⟩ := HK.out w10 BT; have CC := count_any w10 _ _ _ _ _ _ P10.ta; have hce : (c3 : Int) = (E3.length : Int) := (by rw [HE3.out]); obtain ⟨g9, hao9, cl9⟩ := hcell.out w10 BT k9 hk9; rw [hv9] at cl9; subst hao9)
            | (go_at_call 21; refine CC.mono ?_; clear CC; rintro e w11 ⟨rfl, hw⟩; replace hw := hw.symm; subst hw))
          go_roundg (n0 - (i + 1))
          case measure => omega
          case rel => exact ⟨i + 1, S3, vl3, N3, c3, _, cl3, E3, by omega, by omega, rfl, by go_num, rfl, by omega, by omega, P10, O10, HKK⟩
end Go.Proofs.Ytomfkdaaimhmkaa
