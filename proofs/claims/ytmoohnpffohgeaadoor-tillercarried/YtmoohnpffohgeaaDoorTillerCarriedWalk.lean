/- TillerCarried's walk: what comes out of a net and is read was sent. -/
import Derived.Test.YtmoohnpffohgeaaDoorCView
namespace Go.Proofs.YtmoohnpffohgeaaDoor
open Go.ChangeShapes Go.WideShapes Go.ChangeAt Go.RowKit
theorem Tryd.infoAct : (Tryd.prog.info? 44).map (·.size) = some 4 := by kernel_rfl
theorem Inv.start {w w1 : World} (B1 : Below w.heap.size w w1) : Inv w w1.heap.size ((w1.alloc (.cells #[.slice none 0 0, .int .i64 0] 33)).alloc (.cells #[] 40)) (.slice (some ⟨w1.heap.size + 1, 0, none⟩) 0 0) [] [] 0 := by
  have X := blk_new w1 33 #[.slice none 0 0, .int .i64 0]
  have N : NetAt (w1.alloc (.cells #[.slice none 0 0, .int .i64 0] 33)) w1.heap.size [] 0 := ⟨_, X, PRow.nil _ _ _⟩
  have s1 : (w1.alloc (.cells #[.slice none 0 0, .int .i64 0] 33)).heap.size = w1.heap.size + 1 := by simp
  have B2 := below_alloc (w1.alloc (.cells #[.slice none 0 0, .int .i64 0] 33)) (.cells #[] 40)
  have Y := blk_new (w1.alloc (.cells #[.slice none 0 0, .int .i64 0] 33)) 40 #[]
  rw [s1] at Y
  refine ⟨N.below B2, ⟨rfl, Or.inr ⟨w1.heap.size + 1, 0, #[], rfl, by omega, Y, Nat.le_refl _, by unfold maxLen; omega, rfl, rfl⟩⟩, fun k hk => ?_, fun x hx => (by cases hx), below_alloc2 (below_alloc2 B1 _) _, B1.size⟩
  simp only [Value.ownBlock, Option.some.injEq] at hk
  subst hk
  exact beside_fresh N B2 (by omega) Y.lt
set_option maxRecDepth 100000 in
set_option maxHeartbeats 8000000 in
theorem tillerCarried_walk (ao : Option Addr) (n ca : Nat) (Z : Nat → MZ) (ao2 : Option Addr) (n2 ca2 : Nat) (Y : Nat → Act4) (w : World) (hM : MsgsAt w ao n Z) (hY : CActsAt w ao2 n2 Y) (hE : Env w) :
   Calls Tryd.prog 3 #[.slice ao n ca, .slice ao2 n2 ca2] w fun e w' => e = .returned (.bool true) ∧ Below w.heap.size w w' := by
  have W1 := write_ok g6 none 0 0 [] ⟨#[]⟩ w hE (iarg_nil w) (fun k _ => by unfold g6; split <;> omega) chk_six
  rw [show msgV g6 (.slice none 0 0) ⟨#[]⟩ = .agg #[.int .i64 6, .int .i64 0, .int .i64 0, .int .i64 0, .int .i64 0, .int .i64 0, .int .i64 0, .int .i64 0, .int .i64 0, .int .i64 0, .slice none 0 0, .string ⟨#[]⟩] from rfl, mL_six] at W1
  have zS : (txt (packL [6, 0, 0, 0, 0, 0, 0, 0, 0, 0, 0, 0])).size = 22 := by rw [txt_size, packL_length]; rfl
  generalize txt (packL [6, 0, 0, 0, 0, 0, 0, 0, 0, 0, 0, 0]) = S0 at *
  have HM : Hid (∀ W, Below w.heap.size w W → MsgsAt W ao n Z) := fun W h => hM.below h
  have HY : Hid (∀ W, Below w.heap.size w W → CActsAt W ao2 n2 Y) := fun W h => hY.below h
  have HV : Hid (∀ W, Below w.heap.size w W → Env W) := fun W h => hE.next h
  have mx1 := hM.max
  have mx2 := hY.max
  have zone := zero_one
  clear hM hY hE
  go_enter Tryd.func3, Tryd.ntmps3
  go_wp2_with (go_at_call 4; refine W1.mono ?_; rintro e w1 ⟨rfl, B1⟩)
  have I0 := Inv.start B1
  generalize (w1.alloc (.cells #[.slice none 0 0, .int .i64 0] 33)).alloc (.cells #[] 40) = w3 at *
  generalize Value.slice (some ⟨w1.heap.size + 1, 0, none⟩) 0 0 = v0 at *
  generalize w1.heap.size = nb at *
  clear W1 zS B1
  go_loopg [8, 9] 12 (fun r s i wr => ∃ (k : Nat) (M : List SM) (L : List Pc), k ≤ 12 ∧ k ≤ n ∧ r = 12 - k ∧ i = .int .i64 (k : Int) ∧ Inv w nb wr s M L 0 ∧ (∀ x, x ∈ M → MOk x) ∧ (∀ p, p ∈ L → ParOk M p) ∧ L.length = M.length ∧ M.length ≤ k ∧ (∀ y, y ∈ M → 0 < y.A.length → s.ownBlock ≠ some y.b))
  case atStart => exact ⟨0, [], [], by omega, by omega, by omega, rfl, I0, fun x hx => (by cases hx), fun x hx => (by cases hx), rfl, Nat.le_refl _, fun x hx => (by cases hx)⟩
  case round =>
    clear I0
    obtain ⟨k, M, PL, hk, hkn, rfl, rfl, hI, hMO, hPO, hLM, hMk, hOB⟩ := hrel
    have D0 := hI.old
    by_cases hk9 : k < n ∧ k < 12
    · obtain ⟨q1, q2⟩ := hk9
      obtain ⟨b, o, rfl, hc⟩ := (HM.out wr D0).cells (by omega)
      obtain ⟨hz, RG0⟩ := hc k q1
      have RG : wr.rangeAt b (o + k * 12) [.int .i64 ((Z k).g 0), .int .i64 ((Z k).g 1), .int .i64 ((Z k).g 2), .int .i64 ((Z k).g 3), .int .i64 ((Z k).g 4), .int .i64 ((Z k).g 5), .int .i64 ((Z k).g 6), .int .i64 ((Z k).g 7), .int .i64 ((Z k).g 8), .int .i64 ((Z k).g 9), .slice (Z k).ao (Z k).n (Z k).ca, .string (Z k).t] := RG0
      have hg := hz.num
      have FW := fewM_any (Z k).g (Z k).ao (Z k).n (Z k).ca (Z k).A (Z k).t wr hz.tok
      have lA : (cutA (Z k).A).length ≤ 140 := by rw [List.length_take]; omega
      have cA : (cutA (Z k).A).take 140 = cutA (Z k).A := cutA_small lA
      have uA := cutT_cut (Z k).t
      have uS := cutT_size (Z k).t
      clear hc RG0 hz
      generalize (Z k).g = g at *
      generalize cutA (Z k).A = A1 at *
      generalize cutT (Z k).t = t1 at *
      generalize (Z k).ao = zo at *
      generalize (Z k).n = zn at *
      generalize (Z k).ca = zc at *
      generalize (Z k).t = zt at *
      have kn' : (k : Int) < (n : Int) := by omega
      have k12 : (k : Int) < 12 := by omega
      have TA := fun W b2 c2 (hW : IArg W (some ⟨b2, 0, none⟩) A1.length c2 A1) => told_any g (some ⟨b2, 0, none⟩) A1.length c2 A1 t1 W hW
      rw [show cutA A1 = A1 from cA, uA] at TA
      have hnb := hI.net.lt
      by_cases hck : (chkN g A1 t1.size).1 = 0
      rotate_left
      · have WR := fun W b2 c2 (hW : IArg W (some ⟨b2, 0, none⟩) A1.length c2 A1) => write_bad g (some ⟨b2, 0, none⟩) A1.length c2 A1 t1 W hW hg hck
        generalize (chkN g A1 t1.size).2 = qq at WR
        generalize (chkN g A1 t1.size).1 = mm at WR
        go_wp2_with (first
          | (refine wpList_load_mid rfl 30 _ rfl b (o + k * 12) rfl [.int .i64 (g 0), .int .i64 (g 1), .int .i64 (g 2), .int .i64 (g 3), .int .i64 (g 4), .int .i64 (g 5), .int .i64 (g 6), .int .i64 (g 7), .int .i64 (g 8), .int .i64 (g 9), .slice zo zn zc, .string zt] _ RG Tryd.underlying30 rfl Tryd.infoMsg ?_)
          | (go_at_call 5; refine FW.mono ?_; rintro e w2 ⟨b2, c2, rfl, R2, nb2, B2⟩; have on := msg_one g (some ⟨b2, 0, none⟩) A1.length c2 t1; have Y2 := blk_new w2 30 #[.int .i64 0, .int .i64 0, .int .i64 0, .int .i64 0, .int .i64 0, .int .i64 0, .int .i64 0, .int .i64 0, .int .i64 0, .int .i64 0, .slice none 0 0, .string ⟨#[]⟩]; have B3 : Below w2.heap.size w2 (w2.alloc (.cells #[.int .i64 0, .int .i64 0, .int .i64 0, .int .i64 0, .int .i64 0, .int .i64 0, .int .i64 0, .int .i64 0, .int .i64 0, .int .i64 0, .slice none 0 0, .string ⟨#[]⟩] 30)) := below_alloc _ _; generalize hw3 : w2.alloc (.cells #[.int .i64 0, .int .i64 0, .int .i64 0, .int .i64 0, .int .i64 0, .int .i64 0, .int .i64 0, .int .i64 0, .int .i64 0, .int .i64 0, .slice none 0 0, .string ⟨#[]⟩] 30) = w3' at *)
          | (refine wpList_store_row rfl 30 _ _ rfl w2.heap.size (msgC g (.slice (some ⟨b2, 0, none⟩) A1.length c2) t1) rfl rfl 30 _ Y2 Tryd.infoMsg rfl on ?_; have Y4 := Y2.row (msgC g (.slice (some ⟨b2, 0, none⟩) A1.length c2) t1); have B4 : Below w2.heap.size w2 (w3'.setRow w2.heap.size (msgC g (.slice (some ⟨b2, 0, none⟩) A1.length c2) t1)) := below_setRow B3 (Nat.le_refl _) _; have R4 := R2.below B4; generalize hw4 : w3'.setRow w2.heap.size (msgC g (.slice (some ⟨b2, 0, none⟩) A1.length c2) t1) = w4 at *)
          | (refine wpList_load_row rfl 30 _ rfl w2.heap.size rfl 30 (msgC g (.slice (some ⟨b2, 0, none⟩) A1.length c2) t1) (0, 0) _ Y4 Tryd.underlying30 rfl Tryd.infoMsg ?_)
          | (go_at_call 4; refine (WR _ b2 c2 R4).mono ?_; rintro e w5 ⟨rfl, B5⟩))
        have BB := below_then (below_then B2 B4) B5
        go_roundg (12 - (k + 1))
        case measure => omega
        case rel => exact ⟨k + 1, M, PL, by omega, by omega, rfl, by go_num, hI.below BB, hMO, hPO, hLM, by omega, hOB⟩
      · have WR := fun W b2 c2 (hE : Env W) (hW : IArg W (some ⟨b2, 0, none⟩) A1.length c2 A1) => write_ok g (some ⟨b2, 0, none⟩) A1.length c2 A1 t1 W hE hW hg hck
        have hml := mL_len (rt_of_chk hck).1
        have HF : Hid (∀ b7 c7, frL ⟨g, A1, t1, b7, c7⟩ = packL (mL g A1 t1)) := fun _ _ => rfl
        have zF : (txt (packL (mL g A1 t1))).size ≤ 65536 := by rw [txt_size, packL_length]; omega
        generalize hFr : txt (packL (mL g A1 t1)) = Fr at *
        have HFr : Hid (txt (packL (mL g A1 t1)) = Fr) := hFr
        have hLl : PL.length < 256 := by omega
        have s0 := hI.net
        clear hFr hml
        go_wp2_with (first
          | (refine wpList_load_mid rfl 30 _ rfl b (o + k * 12) rfl [.int .i64 (g 0), .int .i64 (g 1), .int .i64 (g 2), .int .i64 (g 3), .int .i64 (g 4), .int .i64 (g 5), .int .i64 (g 6), .int .i64 (g 7), .int .i64 (g 8), .int .i64 (g 9), .slice zo zn zc, .string zt] _ RG Tryd.underlying30 rfl Tryd.infoMsg ?_)
          | (go_at_call 5; refine FW.mono ?_; rintro e w2 ⟨b2, c2, rfl, R2, nb2, B2⟩; have on := msg_one g (some ⟨b2, 0, none⟩) A1.length c2 t1; have Y2 := blk_new w2 30 #[.int .i64 0, .int .i64 0, .int .i64 0, .int .i64 0, .int .i64 0, .int .i64 0, .int .i64 0, .int .i64 0, .int .i64 0, .int .i64 0, .slice none 0 0, .string ⟨#[]⟩]; have B3 : Below w2.heap.size w2 (w2.alloc (.cells #[.int .i64 0, .int .i64 0, .int .i64 0, .int .i64 0, .int .i64 0, .int .i64 0, .int .i64 0, .int .i64 0, .int .i64 0, .int .i64 0, .slice none 0 0, .string ⟨#[]⟩] 30)) := below_alloc _ _; generalize hw3 : w2.alloc (.cells #[.int .i64 0, .int .i64 0, .int .i64 0, .int .i64 0, .int .i64 0, .int .i64 0, .int .i64 0, .int .i64 0, .int .i64 0, .int .i64 0, .slice none 0 0, .string ⟨#[]⟩] 30) = w3' at *)
          | (refine wpList_store_row rfl 30 _ _ rfl w2.heap.size (msgC g (.slice (some ⟨b2, 0, none⟩) A1.length c2) t1) rfl rfl 30 _ Y2 Tryd.infoMsg rfl on ?_; have Y4 := Y2.row (msgC g (.slice (some ⟨b2, 0, none⟩) A1.length c2) t1); have B4 : Below w2.heap.size w2 (w3'.setRow w2.heap.size (msgC g (.slice (some ⟨b2, 0, none⟩) A1.length c2) t1)) := below_setRow B3 (Nat.le_refl _) _; have R4 := R2.below B4; generalize hw4 : w3'.setRow w2.heap.size (msgC g (.slice (some ⟨b2, 0, none⟩) A1.length c2) t1) = w4 at *; have V4 := HV.out w4 (below_then D0 (below_then B2 B4)))
          | (refine wpList_load_row rfl 30 _ rfl w2.heap.size rfl 30 (msgC g (.slice (some ⟨b2, 0, none⟩) A1.length c2) t1) (0, 0) _ Y4 Tryd.underlying30 rfl Tryd.infoMsg ?_)
          | (go_at_call 4; refine (WR _ b2 c2 V4 R4).mono ?_; rintro e w5 ⟨rfl, B5⟩; have BB := below_then (below_then B2 B4) B5; have I5 := hI.below BB; have R5 := R4.below B5; have Y5 := Y4.next B5; have sz2 := B2.size; have lt5 := Y5.lt; have ES : Beside nb w5 w2.heap.size := beside_fresh s0 BB sz2 lt5; have ET : 0 < A1.length → Beside nb w5 b2 := fun hn => beside_fresh s0 BB nb2 (R5.lt hn _ rfl); have SD := send_ok nb 1 Fr PL 0 w5 I5.net (by omega) (by omega) zF hLl)
          | (go_at_call 6; refine SD.mono ?_; rintro e w6 ⟨rfl, N6, T6⟩; have I6 := I5.turns T6 N6; have Y6 : Blk w6 w2.heap.size 30 (msgC g (.slice (some ⟨b2, 0, none⟩) A1.length c2) t1) := Y5.of_block (ES.same T6); have R6 : IArg w6 (some ⟨b2, 0, none⟩) A1.length c2 A1 := iarg_same R5 (fun hn ad e => by injection e with e; subst e; exact (ET hn).same T6))
          | (refine wpList_load_row rfl 30 _ rfl w2.heap.size rfl 30 (msgC g (.slice (some ⟨b2, 0, none⟩) A1.length c2) t1) (0, 0) _ Y6 Tryd.underlying30 rfl Tryd.infoMsg ?_)
          | (go_at_call 7; refine (TA _ b2 c2 R6).mono ?_; rintro e w7 ⟨b7, c7, rfl, R7, nb7, B7⟩; have I7 := I6.below B7; have X8 := blk_new w7 40 (SM.cs ⟨g, A1, t1, b7, c7⟩); have B8 := below_alloc w7 (.cells (SM.cs ⟨g, A1, t1, b7, c7⟩) 40); have I8 := I7.below B8; have R8 := R7.below B8; have B78 := below_then B7 B8; have HP : 0 < A1.length → Beside nb (w7.alloc (.cells (SM.cs ⟨g, A1, t1, b7, c7⟩) 40)) b7 ∧ u8.ownBlock ≠ some b7 := fun hn => ⟨beside_fresh I6.net B78 nb7 (R8.lt hn _ rfl), fun e => by have := (I6.off b7 e).lt; omega⟩; unfold SM.cs at X8 B8 I8 R8 HP; generalize hw8 : w7.alloc (.cells (msgC g (.slice (some ⟨b7, 0, none⟩) A1.length c7) t1) 40) = w8 at *)
          | (at_builtin; refine wpList_append_sent rfl _ _ rfl w nb u8 M (PL ++ [⟨1, Fr, false⟩]) 0 ⟨g, A1, t1, b7, c7⟩ w7.heap.size rfl rfl I8 X8 ⟨R8, HP⟩ hOB (by omega) ?_; intro v9 w9 I9 hob))
        go_roundg (12 - (k + 1))
        case measure => omega
        case rel =>
          refine ⟨k + 1, M ++ [⟨g, A1, t1, b7, c7⟩], PL ++ [⟨1, Fr, false⟩], by omega, by omega, rfl, by go_num, I9, fun x hx => ?_, ?_, by simp [hLM], by simp; omega, fun y hy hn => ?_⟩
          · rcases List.mem_append.1 hx with h | h
            · exact hMO x h
            · obtain rfl : x = ⟨g, A1, t1, b7, c7⟩ := by simpa using h
              exact ⟨hck, lA, uS⟩
          · refine snoc_ok (fun p hp => (hPO p hp).more) ⟨⟨g, A1, t1, b7, c7⟩, List.mem_append.2 (Or.inr (by simp)), ?_, Or.inl ⟨rfl, ?_⟩⟩
            · show Fr.data.toList.length = _
              rw [← HFr.out, txt_list]; rfl
            · show Fr = _
              rw [← HFr.out]; rfl
          · intro e
            rcases List.mem_append.1 hy with h | h
            · rcases hob y.b e with e2 | e2
              · exact hOB y h hn e2
              · have := ((I8.tok y h).2 hn).lt; omega
            · obtain rfl : y = ⟨g, A1, t1, b7, c7⟩ := by simpa using h
              rcases hob b7 e with e2 | e2
              · exact (HP hn).2 e2
              · have := (HP hn).1.lt; omega

    · have key : ∀ (P : Prop), ((k : Int) < (n : Int) → ¬ (k : Int) < 12 → P) → (¬ (k : Int) < (n : Int) → P) → P := fun P a b => by
        rcases Int.lt_or_le (k : Int) (n : Int) with q | q
        · exact a q (by omega)
        · exact b (by omega)
      obtain ⟨va, vc, rfl⟩ := hI.row.slice
      have m12 : M.length ≤ 12 := by omega
      have lLM : PL.length ≤ M.length := by omega
      clear hk9 hOB hLM hMk
      refine key _ (fun k1 k2 => ?_) (fun k1 => ?_)
      all_goals
        clear key
        go_wp2_with fail
        clear k1 hk hkn
        go_loopg [13] 30 (fun r i wr => ∃ (k : Nat) (L : List Pc) (lost : Int), k ≤ 30 ∧ k ≤ n2 ∧ r = 30 - k ∧ i = .int .i64 (k : Int) ∧ Inv w nb wr (.slice va M.length vc) M L lost ∧ (∀ p, p ∈ L → ParOk M p) ∧ L.length ≤ M.length ∧ 0 ≤ lost ∧ lost ≤ (k : Int))
        case atStart => exact ⟨0, PL, 0, by omega, by omega, by omega, rfl, hI, hPO, lLM, by omega, by omega⟩
        case round =>
          clear hI hPO lLM D0
          obtain ⟨j2, L, lost, hk, hkn, rfl, rfl, hI, hPO, hLM, hl0, hl1⟩ := hrel
          have D0 := hI.old
          by_cases hk9 : j2 < n2 ∧ j2 < 30
          · obtain ⟨q1, q2⟩ := hk9
            obtain ⟨b, o, rfl, hc⟩ := (HY.out wr D0).cells (by omega)
            obtain ⟨hz, RG0⟩ := hc j2 q1
            have RG : wr.rangeAt b (o + j2 * 4) [.int .i64 (Y j2).kind, .int .i64 (Y j2).i, .int .i64 (Y j2).at_, .int .u32 (Y j2).bits] := RG0
            have hyi := hz.i
            have hya := hz.t
            have hyb := hz.b
            clear hc RG0 hz
            generalize (Y j2).kind = kd at *
            generalize (Y j2).i = yi at *
            generalize (Y j2).at_ = ya at *
            generalize (Y j2).bits = yb at *
            have kn' : (j2 : Int) < (n2 : Int) := by omega
            have k30 : (j2 : Int) < 30 := by omega
            have Y0 := blk_new wr 44 #[.int .i64 0, .int .i64 0, .int .i64 0, .int .u32 0]
            have B0 : Below wr.heap.size wr (wr.alloc (.cells #[.int .i64 0, .int .i64 0, .int .i64 0, .int .u32 0] 44)) := below_alloc _ _
            generalize hwa : wr.alloc (.cells #[.int .i64 0, .int .i64 0, .int .i64 0, .int .u32 0] 44) = wa at *
            have on4 : Array.all (#[.int .i64 kd, .int .i64 yi, .int .i64 ya, .int .u32 yb] : Array Value) (fun v => v.oneCell') = true := by simp [Value.oneCell']
            have fin : ∀ (L' : List Pc) (lost' : Int) (wz : World), Inv w nb wz (.slice va M.length vc) M L' lost' → (∀ p, p ∈ L' → ParOk M p) → L'.length ≤ M.length → 0 ≤ lost' → lost' ≤ (j2 : Int) + 1 → ∃ (k : Nat) (L : List Pc) (lost : Int), k ≤ 30 ∧ k ≤ n2 ∧ 30 - (j2 + 1) = 30 - k ∧ Value.int .i64 ((j2 : Int) + 1) = .int .i64 (k : Int) ∧ Inv w nb wz (.slice va M.length vc) M L lost ∧ (∀ p, p ∈ L → ParOk M p) ∧ L.length ≤ M.length ∧ 0 ≤ lost ∧ lost ≤ (k : Int) := fun L' lost' wz a1 a2 a3 a4 a5 => ⟨j2 + 1, L', lost', by omega, by omega, rfl, by go_num, a1, a2, a3, a4, by omega⟩
            have FIN : Hid _ := fin
            clear fin
            rcases Decidable.em (kd = 1) with rfl | h1
            · by_cases hi : yi < 0 ∨ (L.length : Int) ≤ yi
              · go_wp2_with (first
                  | (refine wpList_load_mid rfl 44 _ rfl b (o + j2 * 4) rfl [.int .i64 1, .int .i64 yi, .int .i64 ya, .int .u32 yb] _ RG Tryd.underlying44 rfl Tryd.infoAct ?_)
                  | (refine wpList_store_row rfl 44 _ _ rfl wr.heap.size #[.int .i64 1, .int .i64 yi, .int .i64 ya, .int .u32 yb] rfl rfl 44 _ Y0 Tryd.infoAct rfl on4 ?_; have Y1 := Y0.row #[.int .i64 1, .int .i64 yi, .int .i64 ya, .int .u32 yb]; have B1 : Below wr.heap.size wr (wa.setRow wr.heap.size #[.int .i64 1, .int .i64 yi, .int .i64 ya, .int .u32 yb]) := below_setRow B0 (Nat.le_refl _) _; generalize hwb : wa.setRow wr.heap.size #[.int .i64 1, .int .i64 yi, .int .i64 ya, .int .u32 yb] = wb at *; have I1 := hI.below B1; have c0 : wb.cell? ⟨wr.heap.size, 0, none⟩ = some (.int .i64 1) := Y1.cell 0 rfl; have c1 : wb.cell? ⟨wr.heap.size, 1, none⟩ = some (.int .i64 yi) := Y1.cell 1 rfl; have c2 : wb.cell? ⟨wr.heap.size, 2, none⟩ = some (.int .i64 ya) := Y1.cell 2 rfl; have c3 : wb.cell? ⟨wr.heap.size, 3, none⟩ = some (.int .u32 yb) := Y1.cell 3 rfl)
                  | (go_at_call 8; refine (lose_none nb yi L lost _ I1.net hi).mono ?_; rintro e w2 ⟨rfl, B2⟩))
                go_roundg (30 - (j2 + 1))
                case measure => omega
                case rel => exact FIN.out L lost _ (I1.below B2) hPO hLM hl0 (by omega)
              · obtain ⟨j, rfl⟩ : ∃ j : Nat, yi = (j : Int) := ⟨yi.toNat, by omega⟩
                have hj : j < L.length := by omega
                go_wp2_with (first
                  | (refine wpList_load_mid rfl 44 _ rfl b (o + j2 * 4) rfl [.int .i64 1, .int .i64 (j : Int), .int .i64 ya, .int .u32 yb] _ RG Tryd.underlying44 rfl Tryd.infoAct ?_)
                  | (refine wpList_store_row rfl 44 _ _ rfl wr.heap.size #[.int .i64 1, .int .i64 (j : Int), .int .i64 ya, .int .u32 yb] rfl rfl 44 _ Y0 Tryd.infoAct rfl on4 ?_; have Y1 := Y0.row #[.int .i64 1, .int .i64 (j : Int), .int .i64 ya, .int .u32 yb]; have B1 : Below wr.heap.size wr (wa.setRow wr.heap.size #[.int .i64 1, .int .i64 (j : Int), .int .i64 ya, .int .u32 yb]) := below_setRow B0 (Nat.le_refl _) _; generalize hwb : wa.setRow wr.heap.size #[.int .i64 1, .int .i64 (j : Int), .int .i64 ya, .int .u32 yb] = wb at *; have I1 := hI.below B1; have c0 : wb.cell? ⟨wr.heap.size, 0, none⟩ = some (.int .i64 1) := Y1.cell 0 rfl; have c1 : wb.cell? ⟨wr.heap.size, 1, none⟩ = some (.int .i64 (j : Int)) := Y1.cell 1 rfl; have c2 : wb.cell? ⟨wr.heap.size, 2, none⟩ = some (.int .i64 ya) := Y1.cell 2 rfl; have c3 : wb.cell? ⟨wr.heap.size, 3, none⟩ = some (.int .u32 yb) := Y1.cell 3 rfl)
                  | (go_at_call 8; refine (lose_ok nb j L lost _ I1.net hj (by omega) ⟨hl0, by omega⟩).mono ?_; rintro e w2 ⟨rfl, N2, T2⟩))
                go_roundg (30 - (j2 + 1))
                case measure => omega
                case rel => exact FIN.out (L.eraseIdx j) (lost + 1) _ (I1.turns T2 N2) (erase_ok hPO j) (by rw [List.length_eraseIdx_of_lt hj]; omega) (by omega) (by omega)
            rcases Decidable.em (kd = 2) with rfl | h2
            · by_cases hi : yi < 0 ∨ (L.length : Int) ≤ yi
              · go_wp2_with (first
                  | (refine wpList_load_mid rfl 44 _ rfl b (o + j2 * 4) rfl [.int .i64 2, .int .i64 yi, .int .i64 ya, .int .u32 yb] _ RG Tryd.underlying44 rfl Tryd.infoAct ?_)
                  | (refine wpList_store_row rfl 44 _ _ rfl wr.heap.size #[.int .i64 2, .int .i64 yi, .int .i64 ya, .int .u32 yb] rfl rfl 44 _ Y0 Tryd.infoAct rfl on4 ?_; have Y1 := Y0.row #[.int .i64 2, .int .i64 yi, .int .i64 ya, .int .u32 yb]; have B1 : Below wr.heap.size wr (wa.setRow wr.heap.size #[.int .i64 2, .int .i64 yi, .int .i64 ya, .int .u32 yb]) := below_setRow B0 (Nat.le_refl _) _; generalize hwb : wa.setRow wr.heap.size #[.int .i64 2, .int .i64 yi, .int .i64 ya, .int .u32 yb] = wb at *; have I1 := hI.below B1; have c0 : wb.cell? ⟨wr.heap.size, 0, none⟩ = some (.int .i64 2) := Y1.cell 0 rfl; have c1 : wb.cell? ⟨wr.heap.size, 1, none⟩ = some (.int .i64 yi) := Y1.cell 1 rfl; have c2 : wb.cell? ⟨wr.heap.size, 2, none⟩ = some (.int .i64 ya) := Y1.cell 2 rfl; have c3 : wb.cell? ⟨wr.heap.size, 3, none⟩ = some (.int .u32 yb) := Y1.cell 3 rfl)
                  | (go_at_call 9; refine (move_none nb yi L lost _ I1.net hi).mono ?_; rintro e w2 ⟨rfl, B2⟩))
                go_roundg (30 - (j2 + 1))
                case measure => omega
                case rel => exact FIN.out L lost _ (I1.below B2) hPO hLM hl0 (by omega)
              · obtain ⟨j, rfl⟩ : ∃ j : Nat, yi = (j : Int) := ⟨yi.toNat, by omega⟩
                have hj : j < L.length := by omega
                go_wp2_with (first
                  | (refine wpList_load_mid rfl 44 _ rfl b (o + j2 * 4) rfl [.int .i64 2, .int .i64 (j : Int), .int .i64 ya, .int .u32 yb] _ RG Tryd.underlying44 rfl Tryd.infoAct ?_)
                  | (refine wpList_store_row rfl 44 _ _ rfl wr.heap.size #[.int .i64 2, .int .i64 (j : Int), .int .i64 ya, .int .u32 yb] rfl rfl 44 _ Y0 Tryd.infoAct rfl on4 ?_; have Y1 := Y0.row #[.int .i64 2, .int .i64 (j : Int), .int .i64 ya, .int .u32 yb]; have B1 : Below wr.heap.size wr (wa.setRow wr.heap.size #[.int .i64 2, .int .i64 (j : Int), .int .i64 ya, .int .u32 yb]) := below_setRow B0 (Nat.le_refl _) _; generalize hwb : wa.setRow wr.heap.size #[.int .i64 2, .int .i64 (j : Int), .int .i64 ya, .int .u32 yb] = wb at *; have I1 := hI.below B1; have c0 : wb.cell? ⟨wr.heap.size, 0, none⟩ = some (.int .i64 2) := Y1.cell 0 rfl; have c1 : wb.cell? ⟨wr.heap.size, 1, none⟩ = some (.int .i64 (j : Int)) := Y1.cell 1 rfl; have c2 : wb.cell? ⟨wr.heap.size, 2, none⟩ = some (.int .i64 ya) := Y1.cell 2 rfl; have c3 : wb.cell? ⟨wr.heap.size, 3, none⟩ = some (.int .u32 yb) := Y1.cell 3 rfl)
                  | (go_at_call 9; refine (move_ok nb j L lost _ I1.net hj (by omega)).mono ?_; rintro e w2 ⟨rfl, N2, T2⟩))
                go_roundg (30 - (j2 + 1))
                case measure => omega
                case rel => exact FIN.out (L.eraseIdx j ++ [pc L j]) lost _ (I1.turns T2 N2) (snoc_ok (erase_ok hPO j) (hPO _ (pc_mem hj))) (by rw [List.length_append, List.length_eraseIdx_of_lt hj]; simp; omega) hl0 (by omega)
            rcases Decidable.em (kd = 3) with rfl | h3
            · by_cases hi : yi < 0 ∨ (L.length : Int) ≤ yi
              · go_wp2_with (first
                  | (refine wpList_load_mid rfl 44 _ rfl b (o + j2 * 4) rfl [.int .i64 3, .int .i64 yi, .int .i64 ya, .int .u32 yb] _ RG Tryd.underlying44 rfl Tryd.infoAct ?_)
                  | (refine wpList_store_row rfl 44 _ _ rfl wr.heap.size #[.int .i64 3, .int .i64 yi, .int .i64 ya, .int .u32 yb] rfl rfl 44 _ Y0 Tryd.infoAct rfl on4 ?_; have Y1 := Y0.row #[.int .i64 3, .int .i64 yi, .int .i64 ya, .int .u32 yb]; have B1 : Below wr.heap.size wr (wa.setRow wr.heap.size #[.int .i64 3, .int .i64 yi, .int .i64 ya, .int .u32 yb]) := below_setRow B0 (Nat.le_refl _) _; generalize hwb : wa.setRow wr.heap.size #[.int .i64 3, .int .i64 yi, .int .i64 ya, .int .u32 yb] = wb at *; have I1 := hI.below B1; have c0 : wb.cell? ⟨wr.heap.size, 0, none⟩ = some (.int .i64 3) := Y1.cell 0 rfl; have c1 : wb.cell? ⟨wr.heap.size, 1, none⟩ = some (.int .i64 yi) := Y1.cell 1 rfl; have c2 : wb.cell? ⟨wr.heap.size, 2, none⟩ = some (.int .i64 ya) := Y1.cell 2 rfl; have c3 : wb.cell? ⟨wr.heap.size, 3, none⟩ = some (.int .u32 yb) := Y1.cell 3 rfl)
                  | (go_at_call 10; refine (turn_none nb yi ya yb L lost _ I1.net hi).mono ?_; rintro e w2 ⟨rfl, hw2⟩; replace hw2 := hw2.symm; subst hw2))
                go_roundg (30 - (j2 + 1))
                case measure => omega
                case rel => exact FIN.out L lost _ I1 hPO hLM hl0 (by omega)
              · obtain ⟨j, rfl⟩ : ∃ j : Nat, yi = (j : Int) := ⟨yi.toNat, by omega⟩
                have hj : j < L.length := by omega
                have hPj := hPO _ (pc_mem hj)
                have hsz := hPj.size hMO
                by_cases ht : ya < 0 ∨ 8 * ((pc L j).fr.size : Int) ≤ ya
                · go_wp2_with (first
                    | (refine wpList_load_mid rfl 44 _ rfl b (o + j2 * 4) rfl [.int .i64 3, .int .i64 (j : Int), .int .i64 ya, .int .u32 yb] _ RG Tryd.underlying44 rfl Tryd.infoAct ?_)
                    | (refine wpList_store_row rfl 44 _ _ rfl wr.heap.size #[.int .i64 3, .int .i64 (j : Int), .int .i64 ya, .int .u32 yb] rfl rfl 44 _ Y0 Tryd.infoAct rfl on4 ?_; have Y1 := Y0.row #[.int .i64 3, .int .i64 (j : Int), .int .i64 ya, .int .u32 yb]; have B1 : Below wr.heap.size wr (wa.setRow wr.heap.size #[.int .i64 3, .int .i64 (j : Int), .int .i64 ya, .int .u32 yb]) := below_setRow B0 (Nat.le_refl _) _; generalize hwb : wa.setRow wr.heap.size #[.int .i64 3, .int .i64 (j : Int), .int .i64 ya, .int .u32 yb] = wb at *; have I1 := hI.below B1; have c0 : wb.cell? ⟨wr.heap.size, 0, none⟩ = some (.int .i64 3) := Y1.cell 0 rfl; have c1 : wb.cell? ⟨wr.heap.size, 1, none⟩ = some (.int .i64 (j : Int)) := Y1.cell 1 rfl; have c2 : wb.cell? ⟨wr.heap.size, 2, none⟩ = some (.int .i64 ya) := Y1.cell 2 rfl; have c3 : wb.cell? ⟨wr.heap.size, 3, none⟩ = some (.int .u32 yb) := Y1.cell 3 rfl)
                    | (go_at_call 10; refine (turn_arg nb j ya yb L lost _ I1.net hj (by omega) ht).mono ?_; rintro e w2 ⟨rfl, hw2⟩; replace hw2 := hw2.symm; subst hw2))
                  go_roundg (30 - (j2 + 1))
                  case measure => omega
                  case rel => exact FIN.out L lost _ I1 hPO hLM hl0 (by omega)
                · obtain ⟨t, rfl⟩ : ∃ t : Nat, ya = (t : Int) := ⟨ya.toNat, by omega⟩
                  have htt : t < 8 * (pc L j).fr.size := by omega
                  by_cases htn : (pc L j).tn = true
                  · go_wp2_with (first
                      | (refine wpList_load_mid rfl 44 _ rfl b (o + j2 * 4) rfl [.int .i64 3, .int .i64 (j : Int), .int .i64 (t : Int), .int .u32 yb] _ RG Tryd.underlying44 rfl Tryd.infoAct ?_)
                      | (refine wpList_store_row rfl 44 _ _ rfl wr.heap.size #[.int .i64 3, .int .i64 (j : Int), .int .i64 (t : Int), .int .u32 yb] rfl rfl 44 _ Y0 Tryd.infoAct rfl on4 ?_; have Y1 := Y0.row #[.int .i64 3, .int .i64 (j : Int), .int .i64 (t : Int), .int .u32 yb]; have B1 : Below wr.heap.size wr (wa.setRow wr.heap.size #[.int .i64 3, .int .i64 (j : Int), .int .i64 (t : Int), .int .u32 yb]) := below_setRow B0 (Nat.le_refl _) _; generalize hwb : wa.setRow wr.heap.size #[.int .i64 3, .int .i64 (j : Int), .int .i64 (t : Int), .int .u32 yb] = wb at *; have I1 := hI.below B1; have c0 : wb.cell? ⟨wr.heap.size, 0, none⟩ = some (.int .i64 3) := Y1.cell 0 rfl; have c1 : wb.cell? ⟨wr.heap.size, 1, none⟩ = some (.int .i64 (j : Int)) := Y1.cell 1 rfl; have c2 : wb.cell? ⟨wr.heap.size, 2, none⟩ = some (.int .i64 (t : Int)) := Y1.cell 2 rfl; have c3 : wb.cell? ⟨wr.heap.size, 3, none⟩ = some (.int .u32 yb) := Y1.cell 3 rfl)
                      | (go_at_call 10; refine (turn_there nb j t yb L lost _ I1.net hj (by omega) htt htn).mono ?_; rintro e w2 ⟨rfl, hw2⟩; replace hw2 := hw2.symm; subst hw2))
                    go_roundg (30 - (j2 + 1))
                    case measure => omega
                    case rel => exact FIN.out L lost _ I1 hPO hLM hl0 (by omega)
                  · obtain ⟨xb, rfl⟩ : ∃ x : Nat, yb = (x : Int) := ⟨yb.toNat, by omega⟩
                    have htf : (pc L j).tn = false := by simpa using htn
                    go_wp2_with (first
                      | (refine wpList_load_mid rfl 44 _ rfl b (o + j2 * 4) rfl [.int .i64 3, .int .i64 (j : Int), .int .i64 (t : Int), .int .u32 (xb : Int)] _ RG Tryd.underlying44 rfl Tryd.infoAct ?_)
                      | (refine wpList_store_row rfl 44 _ _ rfl wr.heap.size #[.int .i64 3, .int .i64 (j : Int), .int .i64 (t : Int), .int .u32 (xb : Int)] rfl rfl 44 _ Y0 Tryd.infoAct rfl on4 ?_; have Y1 := Y0.row #[.int .i64 3, .int .i64 (j : Int), .int .i64 (t : Int), .int .u32 (xb : Int)]; have B1 : Below wr.heap.size wr (wa.setRow wr.heap.size #[.int .i64 3, .int .i64 (j : Int), .int .i64 (t : Int), .int .u32 (xb : Int)]) := below_setRow B0 (Nat.le_refl _) _; generalize hwb : wa.setRow wr.heap.size #[.int .i64 3, .int .i64 (j : Int), .int .i64 (t : Int), .int .u32 (xb : Int)] = wb at *; have I1 := hI.below B1; have c0 : wb.cell? ⟨wr.heap.size, 0, none⟩ = some (.int .i64 3) := Y1.cell 0 rfl; have c1 : wb.cell? ⟨wr.heap.size, 1, none⟩ = some (.int .i64 (j : Int)) := Y1.cell 1 rfl; have c2 : wb.cell? ⟨wr.heap.size, 2, none⟩ = some (.int .i64 (t : Int)) := Y1.cell 2 rfl; have c3 : wb.cell? ⟨wr.heap.size, 3, none⟩ = some (.int .u32 (xb : Int)) := Y1.cell 3 rfl)
                      | (go_at_call 10; refine (turn_ok nb j t xb L lost _ I1.net hj (by omega) htt htf (by omega)).mono ?_; rintro e w2 ⟨rfl, N2, T2⟩))
                    go_roundg (30 - (j2 + 1))
                    case measure => omega
                    case rel => exact FIN.out (L.set j ⟨(pc L j).to, turnF (pc L j).fr t xb, true⟩) lost _ (I1.turns T2 N2) (set_ok hPO (hPj.turn htf t xb htt (by omega)) j) (by rw [List.length_set]; exact hLM) hl0 (by omega)
            rcases Decidable.em (kd = 4) with rfl | h4
            · by_cases hi : yi < 0 ∨ (L.length : Int) ≤ yi
              · have e0 : (default : Pc).val = .agg #[.int .i64 0, .string ⟨#[]⟩, .bool false] := rfl
                have onz : Array.all (#[.int .i64 0, .string ⟨#[]⟩, .bool false] : Array Value) (fun v => v.oneCell') = true := by simp [Value.oneCell']
                go_wp2_with (first
                  | (refine wpList_load_mid rfl 44 _ rfl b (o + j2 * 4) rfl [.int .i64 4, .int .i64 yi, .int .i64 ya, .int .u32 yb] _ RG Tryd.underlying44 rfl Tryd.infoAct ?_)
                  | (refine wpList_store_row rfl 44 _ _ rfl wr.heap.size #[.int .i64 4, .int .i64 yi, .int .i64 ya, .int .u32 yb] rfl rfl 44 _ Y0 Tryd.infoAct rfl on4 ?_; have Y1 := Y0.row #[.int .i64 4, .int .i64 yi, .int .i64 ya, .int .u32 yb]; have B1 : Below wr.heap.size wr (wa.setRow wr.heap.size #[.int .i64 4, .int .i64 yi, .int .i64 ya, .int .u32 yb]) := below_setRow B0 (Nat.le_refl _) _; generalize hwb : wa.setRow wr.heap.size #[.int .i64 4, .int .i64 yi, .int .i64 ya, .int .u32 yb] = wb at *; have I1 := hI.below B1; have c0 : wb.cell? ⟨wr.heap.size, 0, none⟩ = some (.int .i64 4) := Y1.cell 0 rfl; have c1 : wb.cell? ⟨wr.heap.size, 1, none⟩ = some (.int .i64 yi) := Y1.cell 1 rfl; have c2 : wb.cell? ⟨wr.heap.size, 2, none⟩ = some (.int .i64 ya) := Y1.cell 2 rfl; have c3 : wb.cell? ⟨wr.heap.size, 3, none⟩ = some (.int .u32 yb) := Y1.cell 3 rfl)
                  | (go_at_call 11; have TK := take_none nb yi L lost _ I1.net hi; rw [e0] at TK; refine TK.mono ?_; rintro e w2 ⟨rfl, B2⟩; have Yp := blk_new w2 48 #[.int .i64 0, .string ⟨#[]⟩, .bool false]; have Bp : Below w2.heap.size w2 (w2.alloc (.cells #[.int .i64 0, .string ⟨#[]⟩, .bool false] 48)) := below_alloc _ _; generalize hwp : w2.alloc (.cells #[.int .i64 0, .string ⟨#[]⟩, .bool false] 48) = wp at *)
                  | (refine wpList_store_row rfl 48 _ _ rfl w2.heap.size #[.int .i64 0, .string ⟨#[]⟩, .bool false] rfl rfl 48 _ Yp Tryd.infoParcelS rfl onz ?_))
                go_roundg (30 - (j2 + 1))
                case measure => omega
                case rel => exact FIN.out L lost _ (I1.below (below_then B2 (below_setRow Bp (Nat.le_refl _) _))) hPO hLM hl0 (by omega)
              · obtain ⟨j, rfl⟩ : ∃ j : Nat, yi = (j : Int) := ⟨yi.toNat, by omega⟩
                have hj : j < L.length := by omega
                have hPj := hPO _ (pc_mem hj)
                have hEr := erase_ok hPO j
                have hln : (L.eraseIdx j).length ≤ M.length := by rw [List.length_eraseIdx_of_lt hj]; omega
                have hsz := hPj.size hMO
                have hcs := hPj.cases hMO
                have TK := fun W (hN : NetAt W nb L lost) => take_ok nb j L lost W hN hj (by omega)
                clear hPj
                generalize pc L j = pp at *
                obtain ⟨pt, pf, pn⟩ := pp
                rw [show (Pc.mk pt pf pn).val = .agg #[.int .i64 pt, .string pf, .bool pn] from rfl] at TK
                simp only at hcs hsz
                have onp : Array.all (#[.int .i64 pt, .string pf, .bool pn] : Array Value) (fun v => v.oneCell') = true := by simp [Value.oneCell']
                generalize L.eraseIdx j = L2 at *
                rcases hcs with ⟨x, hx, hfr⟩ | ⟨htn, fp, fn, hfl⟩
                rotate_left
                · subst htn
                  have RB := fun W (hE : Env W) => read_bad pf fp fn W hE (by omega) hfl
                  go_wp2_with (first
                    | (refine wpList_load_mid rfl 44 _ rfl b (o + j2 * 4) rfl [.int .i64 4, .int .i64 (j : Int), .int .i64 ya, .int .u32 yb] _ RG Tryd.underlying44 rfl Tryd.infoAct ?_)
                    | (refine wpList_store_row rfl 44 _ _ rfl wr.heap.size #[.int .i64 4, .int .i64 (j : Int), .int .i64 ya, .int .u32 yb] rfl rfl 44 _ Y0 Tryd.infoAct rfl on4 ?_; have Y1 := Y0.row #[.int .i64 4, .int .i64 (j : Int), .int .i64 ya, .int .u32 yb]; have B1 : Below wr.heap.size wr (wa.setRow wr.heap.size #[.int .i64 4, .int .i64 (j : Int), .int .i64 ya, .int .u32 yb]) := below_setRow B0 (Nat.le_refl _) _; generalize hwb : wa.setRow wr.heap.size #[.int .i64 4, .int .i64 (j : Int), .int .i64 ya, .int .u32 yb] = wb at *; have I1 := hI.below B1; have c0 : wb.cell? ⟨wr.heap.size, 0, none⟩ = some (.int .i64 4) := Y1.cell 0 rfl; have c1 : wb.cell? ⟨wr.heap.size, 1, none⟩ = some (.int .i64 (j : Int)) := Y1.cell 1 rfl; have c2 : wb.cell? ⟨wr.heap.size, 2, none⟩ = some (.int .i64 ya) := Y1.cell 2 rfl; have c3 : wb.cell? ⟨wr.heap.size, 3, none⟩ = some (.int .u32 yb) := Y1.cell 3 rfl)
                    | (go_at_call 11; refine (TK _ I1.net).mono ?_; rintro e w2 ⟨rfl, N2, T2⟩; have I2 := I1.turns T2 N2; have Yp := blk_new w2 48 #[.int .i64 0, .string ⟨#[]⟩, .bool false]; have Bp : Below w2.heap.size w2 (w2.alloc (.cells #[.int .i64 0, .string ⟨#[]⟩, .bool false] 48)) := below_alloc _ _; generalize hwp : w2.alloc (.cells #[.int .i64 0, .string ⟨#[]⟩, .bool false] 48) = wp at *)
                    | (refine wpList_store_row rfl 48 _ _ rfl w2.heap.size #[.int .i64 pt, .string pf, .bool true] rfl rfl 48 _ Yp Tryd.infoParcelS rfl onp ?_; have Yq := Yp.row #[.int .i64 pt, .string pf, .bool true]; have Bq : Below w2.heap.size w2 (wp.setRow w2.heap.size #[.int .i64 pt, .string pf, .bool true]) := below_setRow Bp (Nat.le_refl _) _; have I3 := I2.below Bq; generalize hwq : wp.setRow w2.heap.size #[.int .i64 pt, .string pf, .bool true] = wq at *; have p1 : wq.cell? ⟨w2.heap.size, 1, none⟩ = some (.string pf) := Yq.cell 1 rfl; have V3 := HV.out wq I3.old)
                    | (go_at_call 12; refine (RB _ V3).mono ?_; rintro e w4 ⟨rfl, B4⟩; have I4 := I3.below B4; have Yq4 := Yq.next B4; have Ym := blk_new w4 30 #[.int .i64 0, .int .i64 0, .int .i64 0, .int .i64 0, .int .i64 0, .int .i64 0, .int .i64 0, .int .i64 0, .int .i64 0, .int .i64 0, .slice none 0 0, .string ⟨#[]⟩]; have Bm : Below w4.heap.size w4 (w4.alloc (.cells #[.int .i64 0, .int .i64 0, .int .i64 0, .int .i64 0, .int .i64 0, .int .i64 0, .int .i64 0, .int .i64 0, .int .i64 0, .int .i64 0, .slice none 0 0, .string ⟨#[]⟩] 30)) := below_alloc _ _; generalize hwm : w4.alloc (.cells #[.int .i64 0, .int .i64 0, .int .i64 0, .int .i64 0, .int .i64 0, .int .i64 0, .int .i64 0, .int .i64 0, .int .i64 0, .int .i64 0, .slice none 0 0, .string ⟨#[]⟩] 30) = wm at *)
                    | (refine wpList_store_row rfl 30 _ _ rfl w4.heap.size #[.int .i64 0, .int .i64 0, .int .i64 0, .int .i64 0, .int .i64 0, .int .i64 0, .int .i64 0, .int .i64 0, .int .i64 0, .int .i64 0, .slice none 0 0, .string ⟨#[]⟩] rfl rfl 30 _ Ym Tryd.infoMsg rfl zone ?_; have Bn : Below w4.heap.size w4 (wm.setRow w4.heap.size #[.int .i64 0, .int .i64 0, .int .i64 0, .int .i64 0, .int .i64 0, .int .i64 0, .int .i64 0, .int .i64 0, .int .i64 0, .int .i64 0, .slice none 0 0, .string ⟨#[]⟩]) := below_setRow Bm (Nat.le_refl _) _; have I5 := I4.below Bn; have Yq5 := Yq4.next Bn; generalize hwn : wm.setRow w4.heap.size #[.int .i64 0, .int .i64 0, .int .i64 0, .int .i64 0, .int .i64 0, .int .i64 0, .int .i64 0, .int .i64 0, .int .i64 0, .int .i64 0, .slice none 0 0, .string ⟨#[]⟩] = wn at *; have p2 : wn.cell? ⟨w2.heap.size, 2, none⟩ = some (.bool true) := Yq5.cell 2 rfl))
                  go_roundg (30 - (j2 + 1))
                  case measure => omega
                  case rel => exact FIN.out L2 lost _ I5 hEr hln hl0 (by omega)
                · have hxo := hMO x hx
                  obtain ⟨j0, hj0, hsx⟩ := mem_sm hx
                  have RD := fun W (hE : Env W) => read_ok x.g x.A x.t pf W hE hxo.chk hfr
                  have HX : Hid (sm M j0 = x) := hsx
                  have lx := hxo.few
                  have tx := hxo.len
                  clear hsx hfr hxo
                  go_wp2_with (first
                    | (refine wpList_load_mid rfl 44 _ rfl b (o + j2 * 4) rfl [.int .i64 4, .int .i64 (j : Int), .int .i64 ya, .int .u32 yb] _ RG Tryd.underlying44 rfl Tryd.infoAct ?_)
                    | (refine wpList_store_row rfl 44 _ _ rfl wr.heap.size #[.int .i64 4, .int .i64 (j : Int), .int .i64 ya, .int .u32 yb] rfl rfl 44 _ Y0 Tryd.infoAct rfl on4 ?_; have Y1 := Y0.row #[.int .i64 4, .int .i64 (j : Int), .int .i64 ya, .int .u32 yb]; have B1 : Below wr.heap.size wr (wa.setRow wr.heap.size #[.int .i64 4, .int .i64 (j : Int), .int .i64 ya, .int .u32 yb]) := below_setRow B0 (Nat.le_refl _) _; generalize hwb : wa.setRow wr.heap.size #[.int .i64 4, .int .i64 (j : Int), .int .i64 ya, .int .u32 yb] = wb at *; have I1 := hI.below B1; have c0 : wb.cell? ⟨wr.heap.size, 0, none⟩ = some (.int .i64 4) := Y1.cell 0 rfl; have c1 : wb.cell? ⟨wr.heap.size, 1, none⟩ = some (.int .i64 (j : Int)) := Y1.cell 1 rfl; have c2 : wb.cell? ⟨wr.heap.size, 2, none⟩ = some (.int .i64 ya) := Y1.cell 2 rfl; have c3 : wb.cell? ⟨wr.heap.size, 3, none⟩ = some (.int .u32 yb) := Y1.cell 3 rfl)
                    | (go_at_call 11; refine (TK _ I1.net).mono ?_; rintro e w2 ⟨rfl, N2, T2⟩; have I2 := I1.turns T2 N2; have Yp := blk_new w2 48 #[.int .i64 0, .string ⟨#[]⟩, .bool false]; have Bp : Below w2.heap.size w2 (w2.alloc (.cells #[.int .i64 0, .string ⟨#[]⟩, .bool false] 48)) := below_alloc _ _; generalize hwp : w2.alloc (.cells #[.int .i64 0, .string ⟨#[]⟩, .bool false] 48) = wp at *)
                    | (refine wpList_store_row rfl 48 _ _ rfl w2.heap.size #[.int .i64 pt, .string pf, .bool pn] rfl rfl 48 _ Yp Tryd.infoParcelS rfl onp ?_; have Yq := Yp.row #[.int .i64 pt, .string pf, .bool pn]; have Bq : Below w2.heap.size w2 (wp.setRow w2.heap.size #[.int .i64 pt, .string pf, .bool pn]) := below_setRow Bp (Nat.le_refl _) _; have I3 := I2.below Bq; generalize hwq : wp.setRow w2.heap.size #[.int .i64 pt, .string pf, .bool pn] = wq at *; have p1 : wq.cell? ⟨w2.heap.size, 1, none⟩ = some (.string pf) := Yq.cell 1 rfl; have V3 := HV.out wq I3.old)
                    | (go_at_call 12; refine (RD _ V3).mono ?_; rintro e w4 ⟨a9, c9, rfl, Q4, nb4, B4⟩; have I4 := I3.below B4; have onm := msg_one x.g a9 x.A.length c9 x.t; have Ym := blk_new w4 30 #[.int .i64 0, .int .i64 0, .int .i64 0, .int .i64 0, .int .i64 0, .int .i64 0, .int .i64 0, .int .i64 0, .int .i64 0, .int .i64 0, .slice none 0 0, .string ⟨#[]⟩]; have Bm : Below w4.heap.size w4 (w4.alloc (.cells #[.int .i64 0, .int .i64 0, .int .i64 0, .int .i64 0, .int .i64 0, .int .i64 0, .int .i64 0, .int .i64 0, .int .i64 0, .int .i64 0, .slice none 0 0, .string ⟨#[]⟩] 30)) := below_alloc _ _; generalize hwm : w4.alloc (.cells #[.int .i64 0, .int .i64 0, .int .i64 0, .int .i64 0, .int .i64 0, .int .i64 0, .int .i64 0, .int .i64 0, .int .i64 0, .int .i64 0, .slice none 0 0, .string ⟨#[]⟩] 30) = wm at *)
                    | (refine wpList_store_row rfl 30 _ _ rfl w4.heap.size (msgC x.g (.slice a9 x.A.length c9) x.t) rfl rfl 30 _ Ym Tryd.infoMsg rfl onm ?_; have Yn := Ym.row (msgC x.g (.slice a9 x.A.length c9) x.t); have Bn : Below w4.heap.size w4 (wm.setRow w4.heap.size (msgC x.g (.slice a9 x.A.length c9) x.t)) := below_setRow Bm (Nat.le_refl _) _; have I5 := I4.below Bn; have Q5 := Q4.below Bn; generalize hwn : wm.setRow w4.heap.size (msgC x.g (.slice a9 x.A.length c9) x.t) = wn at *))
                  clear I4 I3 I2 I1 Q4 V3 Yq p1 B4 Ym Bm hwm hwn Bn RG Y0 B0 hwa on4 Y1 B1 hwb c0 c1 c2 c3 T2 N2 Yp Bp hwp Bq hwq hI hPO RD TK
                  go_loopg [19, 123] M.length (fun r f i wz => ∃ (q : Nat) (fb : Bool), q ≤ M.length ∧ r = M.length - q ∧ i = .int .i64 (q : Int) ∧ f = .bool fb ∧ (j0 < q → fb = true) ∧ Inv w nb wz (.slice va M.length vc) M L2 lost ∧ Blk wz w4.heap.size 30 (msgC x.g (.slice a9 x.A.length c9) x.t) ∧ IArg wz a9 x.A.length c9 x.A)
                  case atStart => exact ⟨0, false, by omega, by omega, rfl, rfl, fun h => by omega, I5, Yn, Q5⟩
                  case round =>
                    clear I5 Yn Q5
                    obtain ⟨q, fb, hq, hrr, rfl, rfl, hfb, IZ, YZ, QZ⟩ := hrel
                    have HRR : Hid (_ = M.length - q) := hrr
                    clear hrr
                    by_cases hqm : q < M.length
                    · obtain ⟨vg, vcap, ev, hcap, rng⟩ := IZ.row.cells (by omega)
                      injection ev with ev1 ev2 ev3
                      subst ev1
                      subst ev3
                      have RQ : wr.rangeAt vg (q * 12) [.int .i64 ((sm M q).g 0), .int .i64 ((sm M q).g 1), .int .i64 ((sm M q).g 2), .int .i64 ((sm M q).g 3), .int .i64 ((sm M q).g 4), .int .i64 ((sm M q).g 5), .int .i64 ((sm M q).g 6), .int .i64 ((sm M q).g 7), .int .i64 ((sm M q).g 8), .int .i64 ((sm M q).g 9), .slice (some ⟨(sm M q).b, 0, none⟩) (sm M q).A.length (sm M q).c, .string (sm M q).t] := by have := rng q hqm; rw [Nat.zero_add] at this; exact this
                      have TQ := (IZ.tok _ (sm_mem hqm)).1
                      have mq := hMO _ (sm_mem hqm)
                      have mq1 := mq.few
                      have HEq : Hid (q = j0 → samM (sm M q).g (sm M q).A (sm M q).t x.g x.A x.t = true) := fun e => by rw [e, HX.out]; exact samM_refl _ _ _
                      clear rng mq
                      generalize (sm M q).g = xg at *
                      generalize (sm M q).A = xA at *
                      generalize (sm M q).t = xt at *
                      generalize (sm M q).b = xb at *
                      generalize (sm M q).c = xc at *
                      have Yx := blk_new wr 40 #[.int .i64 0, .int .i64 0, .int .i64 0, .int .i64 0, .int .i64 0, .int .i64 0, .int .i64 0, .int .i64 0, .int .i64 0, .int .i64 0, .slice none 0 0, .string ⟨#[]⟩]
                      have Bx : Below wr.heap.size wr (wr.alloc (.cells #[.int .i64 0, .int .i64 0, .int .i64 0, .int .i64 0, .int .i64 0, .int .i64 0, .int .i64 0, .int .i64 0, .int .i64 0, .int .i64 0, .slice none 0 0, .string ⟨#[]⟩] 40)) := below_alloc _ _
                      generalize hwx : wr.alloc (.cells #[.int .i64 0, .int .i64 0, .int .i64 0, .int .i64 0, .int .i64 0, .int .i64 0, .int .i64 0, .int .i64 0, .int .i64 0, .int .i64 0, .slice none 0 0, .string ⟨#[]⟩] 40) = wx at *
                      have onx := msg_one xg (some ⟨xb, 0, none⟩) xA.length xc xt
                      have TM := fun W (hW : IArg W a9 x.A.length c9 x.A) => told_any x.g a9 x.A.length c9 x.A x.t W hW
                      rw [show cutA x.A = x.A from cutA_small lx, cutT_small tx] at TM
                      have SM := fun W b4 c4 (h3 : IArg W (some ⟨xb, 0, none⟩) xA.length xc xA) (h4 : IArg W (some ⟨b4, 0, none⟩) x.A.length c4 x.A) => same_any xg (some ⟨xb, 0, none⟩) xA.length xc xA xt x.g (some ⟨b4, 0, none⟩) x.A.length c4 x.A x.t W h3 h4 (by omega) (by omega)
                      generalize samM xg xA xt x.g x.A x.t = sb at *
                      have hqm' : (q : Int) < (M.length : Int) := by omega
                      go_wp2_with (first
                        | (refine wpList_load_mid rfl 40 _ rfl vg (q * 12) rfl [.int .i64 (xg 0), .int .i64 (xg 1), .int .i64 (xg 2), .int .i64 (xg 3), .int .i64 (xg 4), .int .i64 (xg 5), .int .i64 (xg 6), .int .i64 (xg 7), .int .i64 (xg 8), .int .i64 (xg 9), .slice (some ⟨xb, 0, none⟩) xA.length xc, .string xt] _ RQ Tryd.underlying40 rfl Tryd.infoRef ?_)
                        | (refine wpList_store_row rfl 40 _ _ rfl wr.heap.size (msgC xg (.slice (some ⟨xb, 0, none⟩) xA.length xc) xt) rfl rfl 40 _ Yx Tryd.infoRef rfl onx ?_))
                      have Yy := Yx.row (msgC xg (.slice (some ⟨xb, 0, none⟩) xA.length xc) xt)
                      have By : Below wr.heap.size wr (wx.setRow wr.heap.size (msgC xg (.slice (some ⟨xb, 0, none⟩) xA.length xc) xt)) := below_setRow Bx (Nat.le_refl _) _
                      have IY := IZ.below By
                      have TY := TQ.below By
                      have QY := QZ.below By
                      have YY := YZ.next By
                      generalize wx.setRow wr.heap.size (msgC xg (.slice (some ⟨xb, 0, none⟩) xA.length xc) xt) = wy at *
                      clear Yx Bx hwx onx RQ TQ IZ YZ QZ By
                      cases fb with
                      | true =>
                        refine wp_region_held_drew (S := fun w' => Blk w' wr.heap.size 40 (msgC xg (.slice (some ⟨xb, 0, none⟩) xA.length xc) xt) ∧ Blk w' w4.heap.size 30 (msgC x.g (.slice a9 x.A.length c9) x.t)) (by kernel_rfl) (⟨Yy, YY⟩) (fun hHeld => ?_)
                        have Id := IY.below ((Below.refl _ wy).drew)
                        have Yd : Blk wy.drew wr.heap.size 40 (msgC xg (.slice (some ⟨xb, 0, none⟩) xA.length xc) xt) := Yy
                        have Md : Blk wy.drew w4.heap.size 30 (msgC x.g (.slice a9 x.A.length c9) x.t) := YY
                        have Td := TY.below ((Below.refl _ wy).drew)
                        have Qd := QY.below ((Below.refl _ wy).drew)
                        generalize hWd : wy.drew = wd at *
                        clear hWd IY Yy YY TY QY
                        refine wpAnyH_take (i := 0) (v := (.bool true)) rfl (by kernel_rfl) (by kernel_rfl) (by kernel_rfl) (fun _ _ _ h => h) (Or.inl ⟨by rfl, ?_⟩) (by assumption) ?_
                        · intro w' hSw
                          go_simp
                        simp only [List.getElem_toArray, List.getElem_cons_zero, Act.put, List.setIfInBounds_toArray, List.set_cons_zero, List.set_cons_succ]
                        refine wpAnyH_take (i := 1) (v := (.bool true)) rfl (by kernel_rfl) (by kernel_rfl) (by kernel_rfl) (fun _ _ _ h => h) (Or.inl ⟨by rfl, ?_⟩) (by assumption) ?_
                        · intro w' hSw
                          go_simp
                        simp only [List.getElem_toArray, List.getElem_cons_succ, List.getElem_cons_zero, Act.put, List.setIfInBounds_toArray, List.set_cons_zero, List.set_cons_succ]
                        refine wpAnyH_take (i := 2) (v := undef) rfl (by kernel_rfl) (by kernel_rfl) (by kernel_rfl) (fun _ _ _ h => h) (Or.inr ⟨by rfl, rfl⟩) (by assumption) ?_
                        simp only [List.getElem_toArray, List.getElem_cons_succ, List.getElem_cons_zero, Act.put, List.setIfInBounds_toArray, List.set_cons_zero, List.set_cons_succ]
                        refine wpAnyH_take (i := 3) (v := undef) rfl (by kernel_rfl) (by kernel_rfl) (by kernel_rfl) (fun _ _ _ h => h) (Or.inr ⟨by rfl, rfl⟩) (by assumption) ?_
                        simp only [List.getElem_toArray, List.getElem_cons_succ, List.getElem_cons_zero, Act.put, List.setIfInBounds_toArray, List.set_cons_zero, List.set_cons_succ]
                        refine wpAnyH_take (i := 4) (v := undef) rfl (by kernel_rfl) (by kernel_rfl) (by kernel_rfl) (fun _ _ _ h => h) (Or.inr ⟨by rfl, rfl⟩) (by assumption) ?_
                        simp only [List.getElem_toArray, List.getElem_cons_succ, List.getElem_cons_zero, Act.put, List.setIfInBounds_toArray, List.set_cons_zero, List.set_cons_succ]
                        refine wpAnyH_take (i := 5) (v := undef) rfl (by kernel_rfl) (by kernel_rfl) (by kernel_rfl) (fun _ _ _ h => h) (Or.inr ⟨by rfl, rfl⟩) (by assumption) ?_
                        simp only [List.getElem_toArray, List.getElem_cons_succ, List.getElem_cons_zero, Act.put, List.setIfInBounds_toArray, List.set_cons_zero, List.set_cons_succ]
                        refine wpAnyH_take (i := 6) (v := (.bool true)) rfl (by kernel_rfl) (by kernel_rfl) (by kernel_rfl) (fun _ _ _ h => h) (Or.inl ⟨by rfl, ?_⟩) (by assumption) ?_
                        · intro w' hSw
                          go_simp
                        simp only [List.getElem_toArray, List.getElem_cons_succ, List.getElem_cons_zero, Act.put, List.setIfInBounds_toArray, List.set_cons_zero, List.set_cons_succ]
                        refine wpAnyH_take (i := 7) (v := (.bool true)) rfl (by kernel_rfl) (by kernel_rfl) (by kernel_rfl) (fun _ _ _ h => h) (Or.inl ⟨by rfl, ?_⟩) (by assumption) ?_
                        · intro w' hSw
                          go_simp
                        simp only [List.getElem_toArray, List.getElem_cons_succ, List.getElem_cons_zero, Act.put, List.setIfInBounds_toArray, List.set_cons_zero, List.set_cons_succ]
                        refine wpAnyH_done (by kernel_rfl) ?_ _
                        clear hHeld
                        go_wp2_with fail
                        go_roundg (M.length - (q + 1))
                        case measure => have := HRR.out; omega
                        case rel => exact ⟨q + 1, true, by omega, rfl, by go_num, rfl, fun _ => rfl, Id, Md, Qd⟩
                      | false =>
                        refine wp_region_held_drew (S := fun w' => Blk w' wr.heap.size 40 (msgC xg (.slice (some ⟨xb, 0, none⟩) xA.length xc) xt) ∧ Blk w' w4.heap.size 30 (msgC x.g (.slice a9 x.A.length c9) x.t)) (by kernel_rfl) (⟨Yy, YY⟩) (fun hHeld => ?_)
                        have Id := IY.below ((Below.refl _ wy).drew)
                        have Yd : Blk wy.drew wr.heap.size 40 (msgC xg (.slice (some ⟨xb, 0, none⟩) xA.length xc) xt) := Yy
                        have Md : Blk wy.drew w4.heap.size 30 (msgC x.g (.slice a9 x.A.length c9) x.t) := YY
                        have Td := TY.below ((Below.refl _ wy).drew)
                        have Qd := QY.below ((Below.refl _ wy).drew)
                        generalize hWd : wy.drew = wd at *
                        clear hWd IY Yy YY TY QY
                        refine wpAnyH_take (i := 0) (v := (.bool false)) rfl (by kernel_rfl) (by kernel_rfl) (by kernel_rfl) (fun _ _ _ h => h) (Or.inl ⟨by rfl, ?_⟩) (by assumption) ?_
                        · intro w' hSw
                          go_simp
                        simp only [List.getElem_toArray, List.getElem_cons_zero, Act.put, List.setIfInBounds_toArray, List.set_cons_zero, List.set_cons_succ]
                        refine wpAnyH_take (i := 1) (v := (.bool false)) rfl (by kernel_rfl) (by kernel_rfl) (by kernel_rfl) (fun _ _ _ h => h) (Or.inl ⟨by rfl, ?_⟩) (by assumption) ?_
                        · intro w' hSw
                          go_simp
                        simp only [List.getElem_toArray, List.getElem_cons_succ, List.getElem_cons_zero, Act.put, List.setIfInBounds_toArray, List.set_cons_zero, List.set_cons_succ]
                        refine wpAnyH_take (i := 2) (v := .agg (msgC xg (.slice (some ⟨xb, 0, none⟩) xA.length xc) xt)) rfl (by kernel_rfl) (by kernel_rfl) (by kernel_rfl) (fun _ _ _ h => h) (yields_row (by rfl) 40 _ rfl wr.heap.size rfl 40 (msgC xg (.slice (some ⟨xb, 0, none⟩) xA.length xc) xt) _ (fun w' hS => hS.1) Tryd.underlying40 rfl Tryd.infoRef) (by assumption) ?_
                        simp only [List.getElem_toArray, List.getElem_cons_succ, List.getElem_cons_zero, Act.put, List.setIfInBounds_toArray, List.set_cons_zero, List.set_cons_succ]
                        refine wpAnyH_take (i := 3) (v := .agg (msgC x.g (.slice a9 x.A.length c9) x.t)) rfl (by kernel_rfl) (by kernel_rfl) (by kernel_rfl) (fun _ _ _ h => h) (yields_row (by rfl) 30 _ rfl w4.heap.size rfl 30 (msgC x.g (.slice a9 x.A.length c9) x.t) _ (fun w' hS => hS.2) Tryd.underlying30 rfl Tryd.infoMsg) (by assumption) ?_
                        simp only [List.getElem_toArray, List.getElem_cons_succ, List.getElem_cons_zero, Act.put, List.setIfInBounds_toArray, List.set_cons_zero, List.set_cons_succ]
                        refine wpAnyH_ready (rs := [4]) (by kernel_rfl) (by simp) ?_
                        refine AllReadyH.cons rfl (fun Kc hKc => ?_) AllReadyH.nil
                        simp only [List.getElem_toArray, List.getElem_cons_succ, List.getElem_cons_zero]
                        rw [if_pos (by rfl)]
                        go_wp2_with fail
                        refine (TM _ Qd).mono ?_
                        rintro e we ⟨b4, c4, rfl, Qe, nbe, Be⟩
                        replace Id := Id.below Be
                        replace Yd := Yd.next Be
                        replace Md := Md.next Be
                        replace Td := Td.below Be
                        replace Qd := Qd.below Be
                        go_wp2_with fail
                        refine hKc.out _ _ (⟨Yd, Md⟩) (fun hHeld => ?_)
                        clear hKc Kc
                        refine wpAnyH_ready (rs := [5]) (by kernel_rfl) (by simp) ?_
                        refine AllReadyH.cons rfl (fun Kc hKc => ?_) AllReadyH.nil
                        simp only [List.getElem_toArray, List.getElem_cons_succ, List.getElem_cons_zero]
                        rw [if_pos (by rfl)]
                        go_wp2_with fail
                        refine (SM _ b4 c4 Td Qe).mono ?_
                        rintro e wf ⟨rfl, Bf⟩
                        replace Id := Id.below Bf
                        replace Yd := Yd.next Bf
                        replace Md := Md.next Bf
                        replace Qd := Qd.below Bf
                        go_wp2_with fail
                        refine hKc.out _ _ (⟨Yd, Md⟩) (fun hHeld => ?_)
                        clear hKc Kc
                        refine wpAnyH_take (i := 6) (v := (.bool sb)) rfl (by kernel_rfl) (by kernel_rfl) (by kernel_rfl) (fun _ _ _ h => h) (Or.inl ⟨by rfl, ?_⟩) (by assumption) ?_
                        · intro w' hSw
                          go_simp
                        simp only [List.getElem_toArray, List.getElem_cons_succ, List.getElem_cons_zero, Act.put, List.setIfInBounds_toArray, List.set_cons_zero, List.set_cons_succ]
                        refine wpAnyH_take (i := 7) (v := (.bool sb)) rfl (by kernel_rfl) (by kernel_rfl) (by kernel_rfl) (fun _ _ _ h => h) (Or.inl ⟨by rfl, ?_⟩) (by assumption) ?_
                        · intro w' hSw
                          go_simp
                        simp only [List.getElem_toArray, List.getElem_cons_succ, List.getElem_cons_zero, Act.put, List.setIfInBounds_toArray, List.set_cons_zero, List.set_cons_succ]
                        refine wpAnyH_done (by kernel_rfl) ?_ _
                        clear hHeld
                        go_wp2_with fail
                        go_roundg (M.length - (q + 1))
                        case measure => have := HRR.out; omega
                        case rel => exact ⟨q + 1, sb, by omega, rfl, by go_num, rfl, fun hlt => (Nat.lt_or_ge j0 q).elim (fun h => absurd (hfb h) (by decide)) (fun h => HEq.out (by omega)), Id, Md, Qd⟩
                    · obtain rfl : q = M.length := by omega
                      have hft := hfb hj0
                      subst hft
                      go_wp2_with fail
                      go_roundg (30 - (j2 + 1))
                      case measure => omega
                      case rel => exact FIN.out L2 lost _ IZ hEr hln hl0 (by omega)
            go_wp2_with (first
              | (refine wpList_load_mid rfl 44 _ rfl b (o + j2 * 4) rfl [.int .i64 kd, .int .i64 yi, .int .i64 ya, .int .u32 yb] _ RG Tryd.underlying44 rfl Tryd.infoAct ?_)
              | (refine wpList_store_row rfl 44 _ _ rfl wr.heap.size #[.int .i64 kd, .int .i64 yi, .int .i64 ya, .int .u32 yb] rfl rfl 44 _ Y0 Tryd.infoAct rfl on4 ?_; have Y1 := Y0.row #[.int .i64 kd, .int .i64 yi, .int .i64 ya, .int .u32 yb]; have B1 : Below wr.heap.size wr (wa.setRow wr.heap.size #[.int .i64 kd, .int .i64 yi, .int .i64 ya, .int .u32 yb]) := below_setRow B0 (Nat.le_refl _) _; generalize hwb : wa.setRow wr.heap.size #[.int .i64 kd, .int .i64 yi, .int .i64 ya, .int .u32 yb] = wb at *; have I1 := hI.below B1; have c0 : wb.cell? ⟨wr.heap.size, 0, none⟩ = some (.int .i64 kd) := Y1.cell 0 rfl; have c1 : wb.cell? ⟨wr.heap.size, 1, none⟩ = some (.int .i64 yi) := Y1.cell 1 rfl; have c2 : wb.cell? ⟨wr.heap.size, 2, none⟩ = some (.int .i64 ya) := Y1.cell 2 rfl; have c3 : wb.cell? ⟨wr.heap.size, 3, none⟩ = some (.int .u32 yb) := Y1.cell 3 rfl))
            go_roundg (30 - (j2 + 1))
            case measure => omega
            case rel => exact FIN.out L lost _ I1 hPO hLM hl0 (by omega)
          · have key : ∀ (P : Prop), ((j2 : Int) < (n2 : Int) → ¬ (j2 : Int) < 30 → P) → (¬ (j2 : Int) < (n2 : Int) → P) → P := fun P a b => by
              rcases Int.lt_or_le (j2 : Int) (n2 : Int) with q | q
              · exact a q (by omega)
              · exact b (by omega)
            have LN := len_any nb L lost wr hI.net
            have hLM' : (L.length : Int) ≤ (M.length : Int) := by omega
            clear hk9
            refine key _ (fun k1 k2 => ?_) (fun k1 => ?_)
            all_goals
              clear key
              go_wp2_with (go_at_call 14; refine LN.mono ?_; rintro e w2 ⟨rfl, rfl⟩)
              go_ret
              exact ⟨rfl, D0⟩
end Go.Proofs.YtmoohnpffohgeaaDoor
