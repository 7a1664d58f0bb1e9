/- TillerTurns. Written by tools/gentt.py. -/
import Derived.Test.YthboinknjhgpfaaTtMem
import Derived.Test.YthboinknjhgpfaaLate
import Derived.Deep.RegionHeld3
import Derived.Deep.DeepCutAuto
namespace Go.Proofs.Ythboinknjhgpfaa
open Go.ChangeShapes Go.WideShapes Go.ChangeAt Go.RowKit
theorem varT (W : World) (T : TypeId) (z R : Array Value) : Blk (W.alloc (.cells z T)) W.heap.size T z ∧ Blk ((W.alloc (.cells z T)).setRow W.heap.size R) W.heap.size T R ∧ Below W.heap.size W ((W.alloc (.cells z T)).setRow W.heap.size R) ∧ ((W.alloc (.cells z T)).setRow W.heap.size R).heap.size = W.heap.size + 1 :=
  ⟨blk_new _ _ _, (blk_new W _ _).row _, belowR (belowA _ _) (Nat.le_refl _) _, by rw [setRow_size]; simp⟩
theorem belowS {B : Nat} {w0 w : World} (hb : Below B w0 w) {a : Addr} (hg : B ≤ a.block) (v : Value) : Below B w0 (w.setCell a v) :=
  ⟨hb.os, hb.tape, hb.output, by simpa [World.setCell] using hb.size, fun k hk => (Below.heap_setCell _ _ _ _ (by omega)).trans (hb.block k hk)⟩
def phI (ak gr i : Nat) : Nat := if gr < i then 2 else if ak < i then 1 else 0
def phA (ak gr i : Nat) : Nat := if gr < i then 2 else if ak ≤ i then 1 else 0
def phG (ak gr i : Nat) : Nat := if gr ≤ i then 2 else if ak ≤ i then 1 else 0
theorem phI_next (ak gr i : Nat) : phI ak gr (i + 1) = phG ak gr i := by
  unfold phI phG
  by_cases h1 : gr ≤ i
  · rw [if_pos (by omega), if_pos h1]
  · rw [if_neg (by omega), if_neg h1]
    by_cases h2 : ak ≤ i
    · rw [if_pos (by omega), if_pos h2]
    · rw [if_neg (by omega), if_neg h2]
theorem iarg_at {w : World} {b n c : Nat} {Z : List Int} (h : IArg w (some ⟨b, 0, none⟩) n c Z) {t : Nat} (ht : t < n) : w.cell? ⟨b, t, none⟩ = some (.int .i64 (el Z t)) ∧ b < w.heap.size := by
  obtain ⟨b', o', e, hc⟩ := h.row.cells (by omega)
  injection e with e
  injection e with e1 e2
  subst e1 e2
  have h1 := hc t ht
  rw [Nat.zero_add] at h1
  exact ⟨h1, by simpa using World.block_lt_of_cell? w _ h1⟩
set_option maxRecDepth 100000 in
set_option maxHeartbeats 64000000 in
theorem tillerTurns_walk (C : Plan) (ao : Option Addr) (n0 ca : Nat) (Z : List Int) (asI grI : Int) (w : World) (_hC : C.Ok) (hZ : IArg w ao n0 ca Z) (_h1 : -9223372036854775808 ≤ asI ∧ asI ≤ 9223372036854775807) (_h2 : -9223372036854775808 ≤ grI ∧ grI ≤ 9223372036854775807) :
    Calls Try.prog 3 #[C.val, .slice ao n0 ca, .int .i64 asI, .int .i64 grI] w fun e w' => e = .returned (.bool true) ∧ Below w.heap.size w w' := by
  unfold Plan.val
  generalize C.te = te at *
  generalize C.ma = ma at *
  have X0 := blk_new w 23 #[.int .i64 te, .int .i64 ma]
  have B0w := belowA w (.cells #[.int .i64 te, .int .i64 ma] 23)
  have s0 : (w.alloc (.cells #[.int .i64 te, .int .i64 ma] 23)).heap.size = w.heap.size + 1 := by simp
  generalize hw0 : w.alloc (.cells #[.int .i64 te, .int .i64 ma] 23) = w0 at *
  have GR := fun W => lgrant_ok 0 0 none 5 10 1 7 [] W (Or.inl ⟨rfl, rfl⟩) (by simp) (by omega) (by omega) may_awake
  unfold lsV at GR
  simp only [Int.zero_add] at GR
  have FW : Hid (∀ W, Below w.heap.size w W → Calls Try.prog 5 #[.slice ao n0 ca, .int .i64 (100 : Int)] W fun e w' => ∃ b c, e = .returned (.slice (some ⟨b, 0, none⟩) (Z.take 100).length c) ∧ IOwn w' W.heap.size (.slice (some ⟨b, 0, none⟩) (Z.take 100).length c) (Z.take 100).length (Z.take 100) ∧ Below W.heap.size W w') := fun W hb => few8_any ao n0 ca Z 100 W (hZ.below hb) (by omega)
  have hsm : ∀ k, -9223372036854775808 ≤ el (Z.take 100) k ∧ el (Z.take 100) k ≤ 9223372036854775807 := fun k => by
    by_cases h : k < 100
    · rw [el_take h]; exact hZ.row.small k
    · rw [el_over (by rw [List.length_take]; omega)]; omega
  have hL : (Z.take 100).length ≤ 100 := by rw [List.length_take]; omega
  clear hZ
  generalize Z.take 100 = ZT at *
  generalize hLt : ZT.length = Lt at *
  have HLT : Hid (ZT.length = Lt) := hLt
  have HSM : Hid (∀ k, -9223372036854775808 ≤ el ZT k ∧ el ZT k ≤ 9223372036854775807) := hsm
  clear hLt hsm
  go_enter Try.func3, Try.ntmps3
  go_upto_region 5 with (first
    | (go_at_call 4; refine (GR _).mono ?_; clear GR; rintro e w1 ⟨bg, rfl, _, _, B1⟩; obtain ⟨XA1, XB1, VB1, vz1⟩ := varT w1 27 #[.int .i64 0, .int .i64 0, .map none] #[.int .i64 1, .int .i64 0, .map (some bg)]; generalize hwA1 : w1.alloc (.cells #[.int .i64 0, .int .i64 0, .map none] 27) = wA1 at *; generalize hwB1 : wA1.setRow w1.heap.size #[.int .i64 1, .int .i64 0, .map (some bg)] = wB1 at *; have vy1 := Nat.le_of_eq vz1.symm; clear vz1; have BW1 := below_then (below_then B0w B1) VB1; have X1 := (X0.below B1).below VB1)
    | (refine wpList_store_row rfl 27 _ _ rfl w1.heap.size _ rfl rfl 27 _ XA1 Try.infoLs rfl (lall _ _ _) ?_; rw [hwB1])
    | (go_at_call 5; refine (FW.out _ BW1).mono ?_; rintro e w2 ⟨bt, ct, rfl, O2, B2⟩; have X2 := X1.below B2; have BW2 := below_then BW1 B2))
  have c0 : w2.cell? ⟨w.heap.size, 0, none⟩ = some (.int .i64 te) := X2.cell 0 rfl
  have c1 : w2.cell? ⟨w.heap.size, 1, none⟩ = some (.int .i64 ma) := X2.cell 1 rfl
  have z2 := BW2.size
  have ltp := X2.lt
  clear hw0 s0 X0 B0w X1 BW1 VB1 XA1 XB1 vy1 hwA1 hwB1 B1
  by_cases q0 : te < 1
  · go_wp2_with fail
    go_ret
    exact ⟨rfl, BW2⟩
  by_cases q1 : 1000 < te
  · go_wp2_with fail
    go_ret
    exact ⟨rfl, BW2⟩
  by_cases q2 : ma < 0
  · go_wp2_with fail
    go_ret
    exact ⟨rfl, BW2⟩
  by_cases q3 : 1000 < ma
  · go_wp2_with fail
    go_ret
    exact ⟨rfl, BW2⟩
  by_cases q4 : asI < 0
  · go_wp2_with fail
    go_ret
    exact ⟨rfl, BW2⟩
  by_cases q5 : grI < asI
  · go_wp2_with fail
    go_ret
    exact ⟨rfl, BW2⟩
  by_cases q6 : (Lt : Int) < grI
  · go_wp2_with fail
    go_ret
    exact ⟨rfl, BW2⟩
  obtain ⟨ak, rfl⟩ : ∃ n : Nat, asI = (n : Int) := ⟨asI.toNat, by omega⟩
  obtain ⟨gr, rfl⟩ : ∃ n : Nat, grI = (n : Int) := ⟨grI.toNat, by omega⟩
  have CN := fun W => cnew_ok 3 W (by omega) (by omega)
  have hag : ak ≤ gr := by omega
  have hgl : gr ≤ Lt := by omega
  obtain ⟨ao2, ct2, ev, A2⟩ := O2.arg HSM.out
  injection ev with ev1 ev2 ev3
  subst ev1 ev3
  go_wp2_with (first
    | (go_at_call 6; refine (CN _).mono ?_; clear CN; rintro e w3 ⟨rfl, CK3, B3, s3⟩; have z3 := Nat.le_of_eq s3.symm; clear s3; have X3 := X2.below B3; have A3 := A2.below B3; obtain ⟨XA4, XB4, VB4, vz4⟩ := varT w3 27 #[.int .i64 0, .int .i64 0, .map none] #[.int .i64 0, .int .i64 0, .map none]; generalize hwA4 : w3.alloc (.cells #[.int .i64 0, .int .i64 0, .map none] 27) = wA4 at *; generalize hwB4 : wA4.setRow w3.heap.size #[.int .i64 0, .int .i64 0, .map none] = wB4 at *; have vy4 := Nat.le_of_eq vz4.symm; clear vz4; have X4 := X3.below VB4; have A4 := A3.below VB4; have CK4 := CK3.below VB4; obtain ⟨XA5, XB5, VB5, vz5⟩ := varT wB4 38 #[.int .i64 0, .int .i64 0, .map none, .map none] #[.int .i64 0, .int .i64 0, .map none, .map none]; generalize hwA5 : wB4.alloc (.cells #[.int .i64 0, .int .i64 0, .map none, .map none] 38) = wA5 at *; generalize hwB5 : wA5.setRow wB4.heap.size #[.int .i64 0, .int .i64 0, .map none, .map none] = wB5 at *; have vy5 := Nat.le_of_eq vz5.symm; clear vz5; have X5 := X4.below VB5; have A5 := A4.below VB5; have CK5 := CK4.below VB5; have XS5 := XB4.below VB5)
    | (refine wpList_store_row rfl 27 _ _ rfl w3.heap.size _ rfl rfl 27 _ XA4 Try.infoLs rfl (lall _ _ _) ?_; rw [hwB4])
    | (refine wpList_store_row rfl 38 _ _ rfl wB4.heap.size _ rfl rfl 38 _ XA5 Try.infoHs rfl (sall _ _ _ _) ?_; rw [hwB5]))
  have BW5 : Below w.heap.size w wB5 := below_then BW2 (below_then B3 (below_then VB4 VB5))
  obtain ⟨w9, h9⟩ : ∃ x, x = wB5 := ⟨_, rfl⟩
  rw [← h9] at BW5 X5 A5 CK5 XS5 XB5
  have M0 : Mem w9 w3.heap.size wB4.heap.size (w2.heap.size + 1) w2.heap.size w9.heap.size w9 [] [] [] [] 0 0 none none none :=
    ⟨XS5, XB5, CK5, Or.inl ⟨rfl, rfl⟩, Or.inl ⟨rfl, rfl⟩, Or.inl ⟨rfl, rfl⟩, (fun _ e => by cases e), (fun _ e => by cases e), (fun _ e => by cases e), XS5.lt, XB5.lt, (ClkR.box CK5).lt, (ClkR.nds CK5).lt, by omega, Nat.le_refl _, fun _ _ _ _ _ => rfl⟩
  have hnep : w.heap.size ≠ w3.heap.size ∧ w.heap.size ≠ wB4.heap.size ∧ w.heap.size ≠ w2.heap.size := by omega
  have hnet : 0 < Lt → bt ≠ w3.heap.size ∧ bt ≠ wB4.heap.size ∧ bt ≠ w2.heap.size := fun h => by
    have := (iarg_at A2 h).2
    omega
  have ltp9 := X5.lt
  have BPL : Hid (∀ W : World, (∀ k, k < w9.heap.size → k ≠ w3.heap.size → k ≠ wB4.heap.size → k ≠ w2.heap.size → W.heap[k]? = w9.heap[k]?) → Blk W w.heap.size 23 #[.int .i64 te, .int .i64 ma]) := fun W h => X5.of_block (h _ ltp9 hnep.1 hnep.2.1 hnep.2.2)
  have TKS : Hid (∀ W : World, (∀ k, k < w9.heap.size → k ≠ w3.heap.size → k ≠ wB4.heap.size → k ≠ w2.heap.size → W.heap[k]? = w9.heap[k]?) → ∀ t, t < Lt → W.cell? ⟨bt, t, none⟩ = some (.int .i64 (el ZT t))) := fun W h t ht => by
    obtain ⟨c1, c2⟩ := iarg_at A5 ht
    obtain ⟨n1, n2, n3⟩ := hnet (by omega)
    rw [← c1]
    unfold World.cell?
    rw [h bt c2 n1 n2 n3]
  have hct := A5.fit
  have hct2 := A5.max
  generalize hB0 : w9.heap.size = B0 at *
  generalize hbs : w3.heap.size = bs at *
  generalize hbh : wB4.heap.size = bh at *
  generalize hgc : w2.heap.size = gc at *
  generalize hbc : gc + 1 = bc at *
  have HBS : Hid (w.heap.size ≤ bs ∧ w.heap.size ≤ bh ∧ w.heap.size ≤ gc) := (by unfold Hid; omega)
  clear hB0 hbs hbh hgc hbc A5 X5 hnet hnep XS5 XB5 CK5 A4 X4 CK4 XB4 XA4 XA5 hwA4 hwB4 hwA5 hwB5 VB4 VB5 CK3 A3 X3 B3 z3 vy4 vy5 A2 O2 c0 c1 X2 BW2 B2 z2 ltp ltp9
  go_loopg [16, 17, 18] (Lt + 1) (fun r s16 s17 s18 wr => ∃ (i : Nat) (num first : Int) (H : List Nat) (W : List (Int × Wn)) (Hm : List (Int × Hv)) (L : List (Int × Hg)) (cn ep : Int) (mw mh mo : Option Nat), r = Lt + 1 - i ∧ i ≤ Lt + 1 ∧ s16 = .int .i64 num ∧ s17 = .int .i64 first ∧ s18 = .int .i64 (i : Int) ∧ H.length ≤ i ∧ Ph te ma H W Hm L cn ep num first (phI ak gr i) ∧ Mem w9 bs bh bc gc B0 wr H W Hm L cn ep mw mh mo ∧ Below w.heap.size w wr)
  case atStart =>
    subst h9
    exact ⟨0, 0, 0, [], [], [], [], 0, 0, none, none, none, rfl, by omega, rfl, rfl, rfl, by simp, ⟨rfl, rfl, rfl, rfl, rfl, rfl, rfl⟩, M0, BW5⟩
  case round =>
  clear M0 BW5
  obtain ⟨i, num, first, H, W, Hm, L, cn, ep, mw, mh, mo, rfl, hi, rfl, rfl, rfl, hHl, HP, M, BW⟩ := hrel
  by_cases d1 : i ≤ Lt
  case neg =>
    have d1' : ¬ (i : Int) ≤ (Lt : Int) := by omega
    go_wp2_with fail
    go_ret
    exact ⟨rfl, BW⟩
  have d1' : (i : Int) ≤ (Lt : Int) := by omega
  have HPH : Hid (Ph te ma H W Hm L cn ep num first (phI ak gr i)) := HP
  have hH9 : H.length ≤ 900 := by omega
  have XP := BPL.out wr M.rest
  clear HP
  go_upto_region 16 with fail

  by_cases hq : ma < wst H 3
  case pos =>
    refine wp_region_held_drew (S := fun w' => Blk w' w.heap.size 23 #[.int .i64 te, .int .i64 ma]) (by kernel_rfl) (XP) (fun hHeld => ?_)
    refine wpAnyH_take (i := 0) (v := (.pointer (some ⟨bc, 0, none⟩))) rfl (by kernel_rfl) (by kernel_rfl) (by kernel_rfl) (fun _ _ _ h => h) (Or.inl ⟨by rfl, ?_⟩) (by assumption) ?_
    · intro w' hSw
      go_simp
    simp only [List.getElem_toArray, List.getElem_cons_zero, Act.put, List.setIfInBounds_toArray, List.set_cons_zero, List.set_cons_succ]
    refine wpAnyH_take (i := 2) (v := (.pointer (some ⟨w.heap.size, 1, none⟩))) rfl (by kernel_rfl) (by kernel_rfl) (by kernel_rfl) (fun _ _ _ h => h) (Or.inl ⟨by rfl, ?_⟩) (by assumption) ?_
    · intro w' hSw
      go_simp
    simp only [List.getElem_toArray, List.getElem_cons_succ, List.getElem_cons_zero, Act.put, List.setIfInBounds_toArray, List.set_cons_zero, List.set_cons_succ]
    refine wpAnyH_take (i := 3) (v := (.int .i64 ma)) rfl (by kernel_rfl) (by kernel_rfl) (by kernel_rfl) (fun _ _ _ h => h) (Or.inl ⟨by rfl, ?_⟩) (by assumption) ?_
    · intro w' hSw
      have y1 : w'.cell? ⟨w.heap.size, 1, none⟩ = some (.int .i64 ma) := hSw.cell 1 rfl
      go_simp
    simp only [List.getElem_toArray, List.getElem_cons_succ, List.getElem_cons_zero, Act.put, List.setIfInBounds_toArray, List.set_cons_zero, List.set_cons_succ]
    refine wpAnyH_ready (rs := [1]) (by kernel_rfl) (by simp) ?_
    refine AllReadyH.cons rfl (fun Kc hKc => ?_) AllReadyH.nil
    simp only [List.getElem_toArray, List.getElem_cons_succ, List.getElem_cons_zero]
    rw [if_pos (by rfl)]
    go_wp2_with fail
    refine (Clk.worst ((M.below (Below.refl _ _).drew).ck) (by omega) (by omega)).mono ?_
    rintro e wA ⟨rfl, hk⟩
    have BA : Below wr.heap.size wr wA := by
      obtain ⟨kk, hk⟩ := hk
      rw [hk]
      exact below_drewN (Below.refl wr.heap.size wr).drew kk
    clear hk
    go_wp2_with fail
    refine hKc.out _ _ (XP.below BA) (fun hHeld => ?_)
    clear hKc Kc
    refine wpAnyH_take (i := 4) (v := (.bool true)) rfl (by kernel_rfl) (by kernel_rfl) (by kernel_rfl) (fun _ _ _ h => h) (Or.inl ⟨by rfl, ?_⟩) (by assumption) ?_
    · intro w' hSw
      go_simp
    simp only [List.getElem_toArray, List.getElem_cons_succ, List.getElem_cons_zero, Act.put, List.setIfInBounds_toArray, List.set_cons_zero, List.set_cons_succ]
    refine wpAnyH_done (by kernel_rfl) ?_ _
    go_wp2_with fail
    go_ret
    exact ⟨rfl, below_then BW BA⟩
  refine wp_region_held_drew (S := fun w' => Blk w' w.heap.size 23 #[.int .i64 te, .int .i64 ma]) (by kernel_rfl) (XP) (fun hHeld => ?_)
  refine wpAnyH_take (i := 0) (v := (.pointer (some ⟨bc, 0, none⟩))) rfl (by kernel_rfl) (by kernel_rfl) (by kernel_rfl) (fun _ _ _ h => h) (Or.inl ⟨by rfl, ?_⟩) (by assumption) ?_
  · intro w' hSw
    go_simp
  simp only [List.getElem_toArray, List.getElem_cons_zero, Act.put, List.setIfInBounds_toArray, List.set_cons_zero, List.set_cons_succ]
  refine wpAnyH_take (i := 2) (v := (.pointer (some ⟨w.heap.size, 1, none⟩))) rfl (by kernel_rfl) (by kernel_rfl) (by kernel_rfl) (fun _ _ _ h => h) (Or.inl ⟨by rfl, ?_⟩) (by assumption) ?_
  · intro w' hSw
    go_simp
  simp only [List.getElem_toArray, List.getElem_cons_succ, List.getElem_cons_zero, Act.put, List.setIfInBounds_toArray, List.set_cons_zero, List.set_cons_succ]
  refine wpAnyH_take (i := 3) (v := (.int .i64 ma)) rfl (by kernel_rfl) (by kernel_rfl) (by kernel_rfl) (fun _ _ _ h => h) (Or.inl ⟨by rfl, ?_⟩) (by assumption) ?_
  · intro w' hSw
    have y1 : w'.cell? ⟨w.heap.size, 1, none⟩ = some (.int .i64 ma) := hSw.cell 1 rfl
    go_simp
  simp only [List.getElem_toArray, List.getElem_cons_succ, List.getElem_cons_zero, Act.put, List.setIfInBounds_toArray, List.set_cons_zero, List.set_cons_succ]
  refine wpAnyH_ready (rs := [1]) (by kernel_rfl) (by simp) ?_
  refine AllReadyH.cons rfl (fun Kc hKc => ?_) AllReadyH.nil
  simp only [List.getElem_toArray, List.getElem_cons_succ, List.getElem_cons_zero]
  rw [if_pos (by rfl)]
  go_wp2_with fail
  refine (Clk.worst ((M.below (Below.refl _ _).drew).ck) (by omega) (by omega)).mono ?_
  rintro e wA ⟨rfl, hk⟩
  have BA : Below wr.heap.size wr wA := by
    obtain ⟨kk, hk⟩ := hk
    rw [hk]
    exact below_drewN (Below.refl wr.heap.size wr).drew kk
  clear hk
  go_wp2_with fail
  refine hKc.out _ _ (XP.below BA) (fun hHeld => ?_)
  clear hKc Kc
  refine wpAnyH_take (i := 4) (v := (.bool false)) rfl (by kernel_rfl) (by kernel_rfl) (by kernel_rfl) (fun _ _ _ h => h) (Or.inl ⟨by rfl, ?_⟩) (by assumption) ?_
  · intro w' hSw
    go_simp
  simp only [List.getElem_toArray, List.getElem_cons_succ, List.getElem_cons_zero, Act.put, List.setIfInBounds_toArray, List.set_cons_zero, List.set_cons_succ]
  refine wpAnyH_done (by kernel_rfl) ?_ _
  go_upto_if 104 with fail
  have MA := M.below BA
  have BWA := below_then BW BA
  clear M BW XP BA
  go_cut [16] (fun s16 wc => ∃ (num : Int) (W : List (Int × Wn)) (cn : Int) (mw mh : Option Nat), s16 = .int .i64 num ∧ Ph te ma H W Hm L cn ep num first (phA ak gr i) ∧ Mem w9 bs bh bc gc B0 wc H W Hm L cn ep mw mh mo ∧ Below w.heap.size w wc)
  case first =>
    by_cases e1 : i = ak
    case neg =>
      have e1' : ¬ (i : Int) = (ak : Int) := by omega
      have ep1 : phA ak gr i = phI ak gr i := by unfold phA phI; split <;> (try rfl); split <;> split <;> omega
      go_wp2_with fail
      go_meet
      case rel => exact ⟨num, W, cn, mw, mh, rfl, by rw [ep1]; exact HPH.out, MA, BWA⟩
    have e1' : ((i : Int) == (ak : Int)) = true := by rw [e1]; simp
    have ep0 : phI ak gr i = 0 := by unfold phI; rw [if_neg (by omega), if_neg (by omega)]
    have ep1 : phA ak gr i = 1 := by unfold phA; rw [if_neg (by omega), if_pos (by omega)]
    have hP0 := HPH.out
    rw [ep0] at hP0
    obtain ⟨cn', num', W', hP1, ASK⟩ := ph_ask2 hP0 hH9
    have HP1 : Hid (Ph te ma H W' Hm L cn' ep num' first (phA ak gr i)) := by rw [ep1]; exact hP1
    have HASK : Hid _ := ASK
    have hbh := MA.lth
    have hsz := MA.size
    have XH := MA.xh
    clear hP0 hP1 ASK ep0 ep1 e1

    as_aux_lemma =>
      go_upto_region 19 with fail
      refine wp_region_held_drew (S := fun w' => Blk w' bh 38 #[.int .i64 0, .int .i64 cn, .map mw, .map mh]) (by kernel_rfl) (XH) (fun hHeld => ?_)
      have Bwd : Below wA.heap.size wA wA.drew := (Below.refl wA.heap.size wA).drew
      generalize hwd : wA.drew = wd at *
      refine wpAnyH_take (i := 0) (v := (.agg #[.int .i64 0, .int .i64 cn, .map mw, .map mh])) rfl (by kernel_rfl) (by kernel_rfl) (by kernel_rfl) (fun _ _ _ h => h) (Or.inl ⟨by rfl, ?_⟩) (by assumption) ?_
      · intro w' hSw
        have y0 : w'.cell? ⟨bh, 0, none⟩ = some (.int .i64 0) := hSw.cell 0 rfl
        have y1 : w'.cell? ⟨bh, 1, none⟩ = some (.int .i64 cn) := hSw.cell 1 rfl
        have y2 : w'.cell? ⟨bh, 2, none⟩ = some (.map mw) := hSw.cell 2 rfl
        have y3 : w'.cell? ⟨bh, 3, none⟩ = some (.map mh) := hSw.cell 3 rfl
        go_simp
      simp only [List.getElem_toArray, List.getElem_cons_zero, Act.put, List.setIfInBounds_toArray, List.set_cons_zero, List.set_cons_succ]
      refine wpAnyH_take (i := 1) (v := (.pointer (some ⟨bc, 0, none⟩))) rfl (by kernel_rfl) (by kernel_rfl) (by kernel_rfl) (fun _ _ _ h => h) (Or.inl ⟨by rfl, ?_⟩) (by assumption) ?_
      · intro w' hSw
        go_simp
      simp only [List.getElem_toArray, List.getElem_cons_succ, List.getElem_cons_zero, Act.put, List.setIfInBounds_toArray, List.set_cons_zero, List.set_cons_succ]
      refine wpAnyH_ready (rs := [2, 8]) (by kernel_rfl) (by simp) ?_
      refine AllReadyH.cons rfl (fun Kc hKc => ?_) (AllReadyH.cons rfl (fun Kc hKc => ?_) AllReadyH.nil)
      · simp only [List.getElem_toArray, List.getElem_cons_succ, List.getElem_cons_zero]
        rw [if_pos (by rfl)]
        go_wp2_with fail
        refine (Clk.nowI ((MA.below Bwd).ck)).mono ?_
        rintro e wq ⟨rfl, hwq⟩
        obtain rfl := hwq.symm
        go_wp2_with fail
        refine hKc.out _ _ (XH.below Bwd) (fun hHeld => ?_)
        clear hKc Kc
        refine wpAnyH_ready (rs := [3, 8]) (by kernel_rfl) (by simp) ?_
        refine AllReadyH.cons rfl (fun Kc hKc => ?_) (AllReadyH.cons rfl (fun Kc hKc => ?_) AllReadyH.nil)
        · simp only [List.getElem_toArray, List.getElem_cons_succ, List.getElem_cons_zero]
          rw [if_pos (by rfl)]
          go_wp2_with fail
          refine (HASK.out wd mw mh (MA.below Bwd).hW (MA.below Bwd).hH).mono ?_
          rintro e wC ⟨bw, bh2, rfl, NW, BCC⟩
          have BwC : Below wA.heap.size wA wC := below_then Bwd BCC
          have zcc := Bwd.size
          go_wp2_with fail
          refine hKc.out _ _ (XH.below BwC) (fun hHeld => ?_)
          clear hKc Kc
          refine wpAnyH_take (i := 4) (v := (.tuple #[.agg #[.int .i64 0, .int .i64 cn', .map (some bw), .map (some bh2)], .int .i64 num', .int .i64 0])) rfl (by kernel_rfl) (by kernel_rfl) (by kernel_rfl) (fun _ _ _ h => h) (Or.inl ⟨by rfl, ?_⟩) (by assumption) ?_
          · intro w' hSw
            go_simp
          simp only [List.getElem_toArray, List.getElem_cons_succ, List.getElem_cons_zero, Act.put, List.setIfInBounds_toArray, List.set_cons_zero, List.set_cons_succ]
          refine wpAnyH_take (i := 5) (v := (.agg #[.int .i64 0, .int .i64 cn', .map (some bw), .map (some bh2)])) rfl (by kernel_rfl) (by kernel_rfl) (by kernel_rfl) (fun _ _ _ h => h) (Or.inl ⟨by rfl, ?_⟩) (by assumption) ?_
          · intro w' hSw
            go_simp
          simp only [List.getElem_toArray, List.getElem_cons_succ, List.getElem_cons_zero, Act.put, List.setIfInBounds_toArray, List.set_cons_zero, List.set_cons_succ]
          refine wpAnyH_take (i := 6) (v := (.int .i64 num')) rfl (by kernel_rfl) (by kernel_rfl) (by kernel_rfl) (fun _ _ _ h => h) (Or.inl ⟨by rfl, ?_⟩) (by assumption) ?_
          · intro w' hSw
            go_simp
          simp only [List.getElem_toArray, List.getElem_cons_succ, List.getElem_cons_zero, Act.put, List.setIfInBounds_toArray, List.set_cons_zero, List.set_cons_succ]
          refine wpAnyH_take (i := 7) (v := (.int .i64 0)) rfl (by kernel_rfl) (by kernel_rfl) (by kernel_rfl) (fun _ _ _ h => h) (Or.inl ⟨by rfl, ?_⟩) (by assumption) ?_
          · intro w' hSw
            go_simp
          simp only [List.getElem_toArray, List.getElem_cons_succ, List.getElem_cons_zero, Act.put, List.setIfInBounds_toArray, List.set_cons_zero, List.set_cons_succ]
          have YA := blk_new wC 38 #[.int .i64 0, .int .i64 0, .map none, .map none]
          have BA := belowA wC (.cells #[.int .i64 0, .int .i64 0, .map none, .map none] 38)
          have BwD := below_then BwC BA
          have zy : wA.heap.size ≤ wC.heap.size := BwC.size
          have sy : wC.heap.size < (wC.alloc (.cells #[.int .i64 0, .int .i64 0, .map none, .map none] 38)).heap.size := by simp
          refine wpAnyH_ready (rs := [8]) (by kernel_rfl) (by simp) ?_
          refine AllReadyH.cons rfl (fun Kc hKc => ?_) AllReadyH.nil
          simp only [List.getElem_toArray, List.getElem_cons_succ, List.getElem_cons_zero]
          rw [if_pos (by rfl)]
          go_wp2_with fail
          generalize hwwD : wC.alloc (.cells #[.int .i64 0, .int .i64 0, .map none, .map none] 38) = wD at *
          generalize hy : wC.heap.size = y at *
          refine hKc.out _ _ (XH.below BwD) (fun hHeld => ?_)
          clear hKc Kc
          have YB := YA
          have XY := YB.row #[.int .i64 0, .int .i64 cn', .map (some bw), .map (some bh2)]
          have oy : ∀ k, k ≠ y → (wD.setRow y #[.int .i64 0, .int .i64 cn', .map (some bw), .map (some bh2)]).heap[k]? = wD.heap[k]? := fun k hk => setRow_other _ _ _ _ hk
          have BN := belowR BwD zy #[.int .i64 0, .int .i64 cn', .map (some bw), .map (some bh2)]
          generalize hwn : wD.setRow y #[.int .i64 0, .int .i64 cn', .map (some bw), .map (some bh2)] = wn at *
          refine wpAnyH_ready (rs := [9]) (by kernel_rfl) (by simp) ?_
          refine AllReadyH.cons rfl (fun Kc hKc => ?_) AllReadyH.nil
          simp only [List.getElem_toArray, List.getElem_cons_succ, List.getElem_cons_zero]
          rw [if_pos (by rfl)]
          refine wp_store_row 38 _ _ rfl y #[.int .i64 0, .int .i64 cn', .map (some bw), .map (some bh2)] rfl rfl 38 _ YB Try.infoHs rfl (sall _ _ _ _) ?_
          rw [hwn]
          refine hKc.out _ _ (XH.below BN) (fun hHeld => ?_)
          clear hKc Kc
          simp only [Act.put]
          refine wpAnyH_take (i := 10) (v := (.int .i64 num')) rfl (by kernel_rfl) (by kernel_rfl) (by kernel_rfl) (fun _ _ _ h => h) (Or.inl ⟨by rfl, ?_⟩) (by assumption) ?_
          · intro w' hSw
            go_simp
          simp only [List.getElem_toArray, List.getElem_cons_succ, List.getElem_cons_zero, Act.put, List.setIfInBounds_toArray, List.set_cons_zero, List.set_cons_succ]
          refine wpAnyH_take (i := 11) (v := (.int .i64 0)) rfl (by kernel_rfl) (by kernel_rfl) (by kernel_rfl) (fun _ _ _ h => h) (Or.inl ⟨by rfl, ?_⟩) (by assumption) ?_
          · intro w' hSw
            go_simp
          simp only [List.getElem_toArray, List.getElem_cons_succ, List.getElem_cons_zero, Act.put, List.setIfInBounds_toArray, List.set_cons_zero, List.set_cons_succ]
          refine wpAnyH_done (by kernel_rfl) ?_ _
          have MN := MA.below BN
          have NWn := New.up (B' := B0) (w' := wn) NW (by omega) ((oy bw (by have := NW.1.lt; omega)).trans (BA.block bw (by have := NW.1.lt; omega))) ((oy bh2 (by have := NW.2.1.lt; omega)).trans (BA.block bh2 (by have := NW.2.1.lt; omega)))
          have MS := MN.setH cn' NWn
          have BWn := belowR (below_then BWA BN) (show w.heap.size ≤ bh from HBS.out.2.1) #[.int .i64 0, .int .i64 cn', .map (some bw), .map (some bh2)]
          have XHn := MN.xh
          generalize hws : wn.setRow bh #[.int .i64 0, .int .i64 cn', .map (some bw), .map (some bh2)] = wz at *
          go_wp2_with (first | (refine wpList_load_row rfl 38 _ rfl y rfl 38 _ (0, 0) _ XY Try.underlying38 rfl Try.infoHs ?_) | (refine wpList_store_row rfl 38 _ _ rfl bh _ rfl rfl 38 _ XHn Try.infoHs rfl (sall _ _ _ _) ?_; rw [hws]))
          go_meet
          case rel => exact ⟨num', W', cn', some bw, some bh2, rfl, HP1.out, MS, BWn⟩
        · have YA := blk_new wd 38 #[.int .i64 0, .int .i64 0, .map none, .map none]
          have BA := belowA wd (.cells #[.int .i64 0, .int .i64 0, .map none, .map none] 38)
          have BwG9 := below_then Bwd BA
          have zy : wA.heap.size ≤ wd.heap.size := Bwd.size
          have sy : wd.heap.size < (wd.alloc (.cells #[.int .i64 0, .int .i64 0, .map none, .map none] 38)).heap.size := by simp
          simp only [List.getElem_toArray, List.getElem_cons_succ, List.getElem_cons_zero]
          rw [if_pos (by rfl)]
          go_wp2_with fail
          generalize hwwG9 : wd.alloc (.cells #[.int .i64 0, .int .i64 0, .map none, .map none] 38) = wG9 at *
          generalize hy : wd.heap.size = y at *
          refine hKc.out _ _ (XH.below BwG9) (fun hHeld => ?_)
          clear hKc Kc
          refine wpAnyH_ready (rs := [3]) (by kernel_rfl) (by simp) ?_
          refine AllReadyH.cons rfl (fun Kc hKc => ?_) AllReadyH.nil
          simp only [List.getElem_toArray, List.getElem_cons_succ, List.getElem_cons_zero]
          rw [if_pos (by rfl)]
          go_wp2_with fail
          refine (HASK.out wG9 mw mh (MA.below BwG9).hW (MA.below BwG9).hH).mono ?_
          rintro e wC ⟨bw, bh2, rfl, NW, BCC⟩
          have BwC : Below wA.heap.size wA wC := below_then BwG9 BCC
          have zcc := BwG9.size
          go_wp2_with fail
          refine hKc.out _ _ (XH.below BwC) (fun hHeld => ?_)
          clear hKc Kc
          refine wpAnyH_take (i := 4) (v := (.tuple #[.agg #[.int .i64 0, .int .i64 cn', .map (some bw), .map (some bh2)], .int .i64 num', .int .i64 0])) rfl (by kernel_rfl) (by kernel_rfl) (by kernel_rfl) (fun _ _ _ h => h) (Or.inl ⟨by rfl, ?_⟩) (by assumption) ?_
          · intro w' hSw
            go_simp
          simp only [List.getElem_toArray, List.getElem_cons_succ, List.getElem_cons_zero, Act.put, List.setIfInBounds_toArray, List.set_cons_zero, List.set_cons_succ]
          refine wpAnyH_take (i := 5) (v := (.agg #[.int .i64 0, .int .i64 cn', .map (some bw), .map (some bh2)])) rfl (by kernel_rfl) (by kernel_rfl) (by kernel_rfl) (fun _ _ _ h => h) (Or.inl ⟨by rfl, ?_⟩) (by assumption) ?_
          · intro w' hSw
            go_simp
          simp only [List.getElem_toArray, List.getElem_cons_succ, List.getElem_cons_zero, Act.put, List.setIfInBounds_toArray, List.set_cons_zero, List.set_cons_succ]
          refine wpAnyH_take (i := 6) (v := (.int .i64 num')) rfl (by kernel_rfl) (by kernel_rfl) (by kernel_rfl) (fun _ _ _ h => h) (Or.inl ⟨by rfl, ?_⟩) (by assumption) ?_
          · intro w' hSw
            go_simp
          simp only [List.getElem_toArray, List.getElem_cons_succ, List.getElem_cons_zero, Act.put, List.setIfInBounds_toArray, List.set_cons_zero, List.set_cons_succ]
          refine wpAnyH_take (i := 7) (v := (.int .i64 0)) rfl (by kernel_rfl) (by kernel_rfl) (by kernel_rfl) (fun _ _ _ h => h) (Or.inl ⟨by rfl, ?_⟩) (by assumption) ?_
          · intro w' hSw
            go_simp
          simp only [List.getElem_toArray, List.getElem_cons_succ, List.getElem_cons_zero, Act.put, List.setIfInBounds_toArray, List.set_cons_zero, List.set_cons_succ]
          have YB := YA.below BCC
          have XY := YB.row #[.int .i64 0, .int .i64 cn', .map (some bw), .map (some bh2)]
          have oy : ∀ k, k ≠ y → (wC.setRow y #[.int .i64 0, .int .i64 cn', .map (some bw), .map (some bh2)]).heap[k]? = wC.heap[k]? := fun k hk => setRow_other _ _ _ _ hk
          have BN := belowR BwC zy #[.int .i64 0, .int .i64 cn', .map (some bw), .map (some bh2)]
          generalize hwn : wC.setRow y #[.int .i64 0, .int .i64 cn', .map (some bw), .map (some bh2)] = wn at *
          refine wpAnyH_ready (rs := [9]) (by kernel_rfl) (by simp) ?_
          refine AllReadyH.cons rfl (fun Kc hKc => ?_) AllReadyH.nil
          simp only [List.getElem_toArray, List.getElem_cons_succ, List.getElem_cons_zero]
          rw [if_pos (by rfl)]
          refine wp_store_row 38 _ _ rfl y #[.int .i64 0, .int .i64 cn', .map (some bw), .map (some bh2)] rfl rfl 38 _ YB Try.infoHs rfl (sall _ _ _ _) ?_
          rw [hwn]
          refine hKc.out _ _ (XH.below BN) (fun hHeld => ?_)
          clear hKc Kc
          simp only [Act.put]
          refine wpAnyH_take (i := 10) (v := (.int .i64 num')) rfl (by kernel_rfl) (by kernel_rfl) (by kernel_rfl) (fun _ _ _ h => h) (Or.inl ⟨by rfl, ?_⟩) (by assumption) ?_
          · intro w' hSw
            go_simp
          simp only [List.getElem_toArray, List.getElem_cons_succ, List.getElem_cons_zero, Act.put, List.setIfInBounds_toArray, List.set_cons_zero, List.set_cons_succ]
          refine wpAnyH_take (i := 11) (v := (.int .i64 0)) rfl (by kernel_rfl) (by kernel_rfl) (by kernel_rfl) (fun _ _ _ h => h) (Or.inl ⟨by rfl, ?_⟩) (by assumption) ?_
          · intro w' hSw
            go_simp
          simp only [List.getElem_toArray, List.getElem_cons_succ, List.getElem_cons_zero, Act.put, List.setIfInBounds_toArray, List.set_cons_zero, List.set_cons_succ]
          refine wpAnyH_done (by kernel_rfl) ?_ _
          have MN := MA.below BN
          have NWn := New.up (B' := B0) (w' := wn) NW (by omega) (oy bw (by have := NW.2.2.2.1; omega)) (oy bh2 (by have := NW.2.2.2.2; omega))
          have MS := MN.setH cn' NWn
          have BWn := belowR (below_then BWA BN) (show w.heap.size ≤ bh from HBS.out.2.1) #[.int .i64 0, .int .i64 cn', .map (some bw), .map (some bh2)]
          have XHn := MN.xh
          generalize hws : wn.setRow bh #[.int .i64 0, .int .i64 cn', .map (some bw), .map (some bh2)] = wz at *
          go_wp2_with (first | (refine wpList_load_row rfl 38 _ rfl y rfl 38 _ (0, 0) _ XY Try.underlying38 rfl Try.infoHs ?_) | (refine wpList_store_row rfl 38 _ _ rfl bh _ rfl rfl 38 _ XHn Try.infoHs rfl (sall _ _ _ _) ?_; rw [hws]))
          go_meet
          case rel => exact ⟨num', W', cn', some bw, some bh2, rfl, HP1.out, MS, BWn⟩
      · have YA := blk_new wd 38 #[.int .i64 0, .int .i64 0, .map none, .map none]
        have BA := belowA wd (.cells #[.int .i64 0, .int .i64 0, .map none, .map none] 38)
        have BwG9 := below_then Bwd BA
        have zy : wA.heap.size ≤ wd.heap.size := Bwd.size
        have sy : wd.heap.size < (wd.alloc (.cells #[.int .i64 0, .int .i64 0, .map none, .map none] 38)).heap.size := by simp
        simp only [List.getElem_toArray, List.getElem_cons_succ, List.getElem_cons_zero]
        rw [if_pos (by rfl)]
        go_wp2_with fail
        generalize hwwG9 : wd.alloc (.cells #[.int .i64 0, .int .i64 0, .map none, .map none] 38) = wG9 at *
        generalize hy : wd.heap.size = y at *
        refine hKc.out _ _ (XH.below BwG9) (fun hHeld => ?_)
        clear hKc Kc
        refine wpAnyH_ready (rs := [2]) (by kernel_rfl) (by simp) ?_
        refine AllReadyH.cons rfl (fun Kc hKc => ?_) AllReadyH.nil
        simp only [List.getElem_toArray, List.getElem_cons_succ, List.getElem_cons_zero]
        rw [if_pos (by rfl)]
        go_wp2_with fail
        refine (Clk.nowI ((MA.below BwG9).ck)).mono ?_
        rintro e wq ⟨rfl, hwq⟩
        obtain rfl := hwq.symm
        go_wp2_with fail
        refine hKc.out _ _ (XH.below BwG9) (fun hHeld => ?_)
        clear hKc Kc
        refine wpAnyH_ready (rs := [3]) (by kernel_rfl) (by simp) ?_
        refine AllReadyH.cons rfl (fun Kc hKc => ?_) AllReadyH.nil
        simp only [List.getElem_toArray, List.getElem_cons_succ, List.getElem_cons_zero]
        rw [if_pos (by rfl)]
        go_wp2_with fail
        refine (HASK.out wG9 mw mh (MA.below BwG9).hW (MA.below BwG9).hH).mono ?_
        rintro e wC ⟨bw, bh2, rfl, NW, BCC⟩
        have BwC : Below wA.heap.size wA wC := below_then BwG9 BCC
        have zcc := BwG9.size
        go_wp2_with fail
        refine hKc.out _ _ (XH.below BwC) (fun hHeld => ?_)
        clear hKc Kc
        refine wpAnyH_take (i := 4) (v := (.tuple #[.agg #[.int .i64 0, .int .i64 cn', .map (some bw), .map (some bh2)], .int .i64 num', .int .i64 0])) rfl (by kernel_rfl) (by kernel_rfl) (by kernel_rfl) (fun _ _ _ h => h) (Or.inl ⟨by rfl, ?_⟩) (by assumption) ?_
        · intro w' hSw
          go_simp
        simp only [List.getElem_toArray, List.getElem_cons_succ, List.getElem_cons_zero, Act.put, List.setIfInBounds_toArray, List.set_cons_zero, List.set_cons_succ]
        refine wpAnyH_take (i := 5) (v := (.agg #[.int .i64 0, .int .i64 cn', .map (some bw), .map (some bh2)])) rfl (by kernel_rfl) (by kernel_rfl) (by kernel_rfl) (fun _ _ _ h => h) (Or.inl ⟨by rfl, ?_⟩) (by assumption) ?_
        · intro w' hSw
          go_simp
        simp only [List.getElem_toArray, List.getElem_cons_succ, List.getElem_cons_zero, Act.put, List.setIfInBounds_toArray, List.set_cons_zero, List.set_cons_succ]
        refine wpAnyH_take (i := 6) (v := (.int .i64 num')) rfl (by kernel_rfl) (by kernel_rfl) (by kernel_rfl) (fun _ _ _ h => h) (Or.inl ⟨by rfl, ?_⟩) (by assumption) ?_
        · intro w' hSw
          go_simp
        simp only [List.getElem_toArray, List.getElem_cons_succ, List.getElem_cons_zero, Act.put, List.setIfInBounds_toArray, List.set_cons_zero, List.set_cons_succ]
        refine wpAnyH_take (i := 7) (v := (.int .i64 0)) rfl (by kernel_rfl) (by kernel_rfl) (by kernel_rfl) (fun _ _ _ h => h) (Or.inl ⟨by rfl, ?_⟩) (by assumption) ?_
        · intro w' hSw
          go_simp
        simp only [List.getElem_toArray, List.getElem_cons_succ, List.getElem_cons_zero, Act.put, List.setIfInBounds_toArray, List.set_cons_zero, List.set_cons_succ]
        have YB := YA.below BCC
        have XY := YB.row #[.int .i64 0, .int .i64 cn', .map (some bw), .map (some bh2)]
        have oy : ∀ k, k ≠ y → (wC.setRow y #[.int .i64 0, .int .i64 cn', .map (some bw), .map (some bh2)]).heap[k]? = wC.heap[k]? := fun k hk => setRow_other _ _ _ _ hk
        have BN := belowR BwC zy #[.int .i64 0, .int .i64 cn', .map (some bw), .map (some bh2)]
        generalize hwn : wC.setRow y #[.int .i64 0, .int .i64 cn', .map (some bw), .map (some bh2)] = wn at *
        refine wpAnyH_ready (rs := [9]) (by kernel_rfl) (by simp) ?_
        refine AllReadyH.cons rfl (fun Kc hKc => ?_) AllReadyH.nil
        simp only [List.getElem_toArray, List.getElem_cons_succ, List.getElem_cons_zero]
        rw [if_pos (by rfl)]
        refine wp_store_row 38 _ _ rfl y #[.int .i64 0, .int .i64 cn', .map (some bw), .map (some bh2)] rfl rfl 38 _ YB Try.infoHs rfl (sall _ _ _ _) ?_
        rw [hwn]
        refine hKc.out _ _ (XH.below BN) (fun hHeld => ?_)
        clear hKc Kc
        simp only [Act.put]
        refine wpAnyH_take (i := 10) (v := (.int .i64 num')) rfl (by kernel_rfl) (by kernel_rfl) (by kernel_rfl) (fun _ _ _ h => h) (Or.inl ⟨by rfl, ?_⟩) (by assumption) ?_
        · intro w' hSw
          go_simp
        simp only [List.getElem_toArray, List.getElem_cons_succ, List.getElem_cons_zero, Act.put, List.setIfInBounds_toArray, List.set_cons_zero, List.set_cons_succ]
        refine wpAnyH_take (i := 11) (v := (.int .i64 0)) rfl (by kernel_rfl) (by kernel_rfl) (by kernel_rfl) (fun _ _ _ h => h) (Or.inl ⟨by rfl, ?_⟩) (by assumption) ?_
        · intro w' hSw
          go_simp
        simp only [List.getElem_toArray, List.getElem_cons_succ, List.getElem_cons_zero, Act.put, List.setIfInBounds_toArray, List.set_cons_zero, List.set_cons_succ]
        refine wpAnyH_done (by kernel_rfl) ?_ _
        have MN := MA.below BN
        have NWn := New.up (B' := B0) (w' := wn) NW (by omega) (oy bw (by have := NW.2.2.2.1; omega)) (oy bh2 (by have := NW.2.2.2.2; omega))
        have MS := MN.setH cn' NWn
        have BWn := belowR (below_then BWA BN) (show w.heap.size ≤ bh from HBS.out.2.1) #[.int .i64 0, .int .i64 cn', .map (some bw), .map (some bh2)]
        have XHn := MN.xh
        generalize hws : wn.setRow bh #[.int .i64 0, .int .i64 cn', .map (some bw), .map (some bh2)] = wz at *
        go_wp2_with (first | (refine wpList_load_row rfl 38 _ rfl y rfl 38 _ (0, 0) _ XY Try.underlying38 rfl Try.infoHs ?_) | (refine wpList_store_row rfl 38 _ _ rfl bh _ rfl rfl 38 _ XHn Try.infoHs rfl (sall _ _ _ _) ?_; rw [hws]))
        go_meet
        case rel => exact ⟨num', W', cn', some bw, some bh2, rfl, HP1.out, MS, BWn⟩
  case rest =>
  obtain ⟨num, W, cn, mw, mh, rfl, hP, MA, BWA⟩ := hcut
  obtain ⟨wA, hwA⟩ : ∃ x, x = wc := ⟨_, rfl⟩
  subst hwA
  have HPH : Hid (Ph te ma H W Hm L cn ep num first (phA ak gr i)) := hP
  clear hP
  go_upto_if 119 with fail
  go_cut [17] (fun s17 wc => ∃ (first : Int) (W : List (Int × Wn)) (Hm : List (Int × Hv)) (L : List (Int × Hg)) (cn ep : Int) (mw mh mo : Option Nat), s17 = .int .i64 first ∧ Ph te ma H W Hm L cn ep num first (phG ak gr i) ∧ Mem w9 bs bh bc gc B0 wc H W Hm L cn ep mw mh mo ∧ Below w.heap.size w wc)
  case first =>
    by_cases e1 : i = gr
    case neg =>
      have e1' : ¬ (i : Int) = (gr : Int) := by omega
      have ep1 : phG ak gr i = phA ak gr i := by
        unfold phG phA
        by_cases h : gr < i
        · rw [if_pos (by omega), if_pos h]
        · rw [if_neg (by omega), if_neg h]
      go_wp2_with fail
      go_meet
      case rel => exact ⟨first, W, Hm, L, cn, ep, mw, mh, mo, rfl, by rw [ep1]; exact HPH.out, MA, BWA⟩
    have e1' : ((i : Int) == (gr : Int)) = true := by rw [e1]; simp
    have ep0 : phA ak gr i = 1 := by unfold phA; rw [if_neg (by omega), if_pos (by omega)]
    have ep1 : phG ak gr i = 2 := by unfold phG; rw [if_pos (by omega)]
    have hP0 := HPH.out
    rw [ep0] at hP0
    obtain ⟨ep', c9, L', Hm', W', hP1, GRN, GRD⟩ := ph_grant2 hP0 hH9 (by omega) (by omega) (by omega) (by omega)
    have HP1 : Hid (Ph te ma H W' Hm' L' cn ep' num ep' (phG ak gr i)) := by rw [ep1]; exact hP1
    have HGRN : Hid _ := GRN
    have HGRD : Hid _ := GRD
    have hsz := MA.size
    have XS := MA.xs
    have XP := BPL.out wA MA.rest
    clear hP0 hP1 GRN GRD ep0 ep1 e1
    as_aux_lemma =>
      go_upto_region 25 with fail
      refine wp_region_held_drew (S := fun w' => Blk w' bs 27 #[.int .i64 ep, .int .i64 0, .map mo] ∧ Blk w' w.heap.size 23 #[.int .i64 te, .int .i64 ma]) (by kernel_rfl) (⟨XS, XP⟩) (fun hHeld => ?_)
      have Bwd : Below wA.heap.size wA wA.drew := (Below.refl wA.heap.size wA).drew
      generalize hwd : wA.drew = wd at *
      refine wpAnyH_take (i := 0) (v := (.agg #[.int .i64 ep, .int .i64 0, .map mo])) rfl (by kernel_rfl) (by kernel_rfl) (by kernel_rfl) (fun _ _ _ h => h) (Or.inl ⟨by rfl, ?_⟩) (by assumption) ?_
      · intro w' hSw
        have y0 : w'.cell? ⟨bs, 0, none⟩ = some (.int .i64 ep) := hSw.1.cell 0 rfl
        have y1 : w'.cell? ⟨bs, 1, none⟩ = some (.int .i64 0) := hSw.1.cell 1 rfl
        have y2 : w'.cell? ⟨bs, 2, none⟩ = some (.map mo) := hSw.1.cell 2 rfl
        go_simp
      simp only [List.getElem_toArray, List.getElem_cons_zero, Act.put, List.setIfInBounds_toArray, List.set_cons_zero, List.set_cons_succ]
      refine wpAnyH_take (i := 1) (v := (.pointer (some ⟨bc, 0, none⟩))) rfl (by kernel_rfl) (by kernel_rfl) (by kernel_rfl) (fun _ _ _ h => h) (Or.inl ⟨by rfl, ?_⟩) (by assumption) ?_
      · intro w' hSw
        go_simp
      simp only [List.getElem_toArray, List.getElem_cons_succ, List.getElem_cons_zero, Act.put, List.setIfInBounds_toArray, List.set_cons_zero, List.set_cons_succ]
      refine wpAnyH_take (i := 3) (v := (.pointer (some ⟨w.heap.size, 0, none⟩))) rfl (by kernel_rfl) (by kernel_rfl) (by kernel_rfl) (fun _ _ _ h => h) (Or.inl ⟨by rfl, ?_⟩) (by assumption) ?_
      · intro w' hSw
        go_simp
      simp only [List.getElem_toArray, List.getElem_cons_succ, List.getElem_cons_zero, Act.put, List.setIfInBounds_toArray, List.set_cons_zero, List.set_cons_succ]
      refine wpAnyH_take (i := 4) (v := (.int .i64 te)) rfl (by kernel_rfl) (by kernel_rfl) (by kernel_rfl) (fun _ _ _ h => h) (Or.inl ⟨by rfl, ?_⟩) (by assumption) ?_
      · intro w' hSw
        have y0 : w'.cell? ⟨w.heap.size, 0, none⟩ = some (.int .i64 te) := hSw.2.cell 0 rfl
        go_simp
      simp only [List.getElem_toArray, List.getElem_cons_succ, List.getElem_cons_zero, Act.put, List.setIfInBounds_toArray, List.set_cons_zero, List.set_cons_succ]
      refine wpAnyH_ready (rs := [2, 10]) (by kernel_rfl) (by simp) ?_
      refine AllReadyH.cons rfl (fun Kc hKc => ?_) (AllReadyH.cons rfl (fun Kc hKc => ?_) AllReadyH.nil)
      · simp only [List.getElem_toArray, List.getElem_cons_succ, List.getElem_cons_zero]
        rw [if_pos (by rfl)]
        go_wp2_with fail
        refine (Clk.nowO ((MA.below Bwd).ck)).mono ?_
        rintro e wq ⟨rfl, hwq⟩
        obtain rfl := hwq.symm
        go_wp2_with fail
        refine hKc.out _ _ (⟨XS.below Bwd, XP.below Bwd⟩) (fun hHeld => ?_)
        clear hKc Kc
        refine wpAnyH_ready (rs := [5, 10]) (by kernel_rfl) (by simp) ?_
        refine AllReadyH.cons rfl (fun Kc hKc => ?_) (AllReadyH.cons rfl (fun Kc hKc => ?_) AllReadyH.nil)
        · simp only [List.getElem_toArray, List.getElem_cons_succ, List.getElem_cons_zero]
          rw [if_pos (by rfl)]
          go_wp2_with fail
          refine (HGRN.out wd mo (MA.below Bwd).hL).mono ?_
          rintro e wC ⟨b2, rfl, NW, hb2, BCC⟩
          have BwC : Below wA.heap.size wA wC := below_then Bwd BCC
          have zcc := Bwd.size
          go_wp2_with fail
          refine hKc.out _ _ (⟨XS.below BwC, XP.below BwC⟩) (fun hHeld => ?_)
          clear hKc Kc
          refine wpAnyH_take (i := 6) (v := (.tuple #[.agg #[.int .i64 ep', .int .i64 0, .map (some b2)], .int .i64 ep', .int .i64 0])) rfl (by kernel_rfl) (by kernel_rfl) (by kernel_rfl) (fun _ _ _ h => h) (Or.inl ⟨by rfl, ?_⟩) (by assumption) ?_
          · intro w' hSw
            go_simp
          simp only [List.getElem_toArray, List.getElem_cons_succ, List.getElem_cons_zero, Act.put, List.setIfInBounds_toArray, List.set_cons_zero, List.set_cons_succ]
          refine wpAnyH_take (i := 7) (v := (.agg #[.int .i64 ep', .int .i64 0, .map (some b2)])) rfl (by kernel_rfl) (by kernel_rfl) (by kernel_rfl) (fun _ _ _ h => h) (Or.inl ⟨by rfl, ?_⟩) (by assumption) ?_
          · intro w' hSw
            go_simp
          simp only [List.getElem_toArray, List.getElem_cons_succ, List.getElem_cons_zero, Act.put, List.setIfInBounds_toArray, List.set_cons_zero, List.set_cons_succ]
          refine wpAnyH_take (i := 8) (v := (.int .i64 ep')) rfl (by kernel_rfl) (by kernel_rfl) (by kernel_rfl) (fun _ _ _ h => h) (Or.inl ⟨by rfl, ?_⟩) (by assumption) ?_
          · intro w' hSw
            go_simp
          simp only [List.getElem_toArray, List.getElem_cons_succ, List.getElem_cons_zero, Act.put, List.setIfInBounds_toArray, List.set_cons_zero, List.set_cons_succ]
          refine wpAnyH_take (i := 9) (v := (.int .i64 0)) rfl (by kernel_rfl) (by kernel_rfl) (by kernel_rfl) (fun _ _ _ h => h) (Or.inl ⟨by rfl, ?_⟩) (by assumption) ?_
          · intro w' hSw
            go_simp
          simp only [List.getElem_toArray, List.getElem_cons_succ, List.getElem_cons_zero, Act.put, List.setIfInBounds_toArray, List.set_cons_zero, List.set_cons_succ]
          have YA := blk_new wC 27 #[.int .i64 0, .int .i64 0, .map none]
          have BA := belowA wC (.cells #[.int .i64 0, .int .i64 0, .map none] 27)
          have BwD := below_then BwC BA
          have zy : wA.heap.size ≤ wC.heap.size := BwC.size
          have sy : wC.heap.size < (wC.alloc (.cells #[.int .i64 0, .int .i64 0, .map none] 27)).heap.size := by simp
          refine wpAnyH_ready (rs := [10]) (by kernel_rfl) (by simp) ?_
          refine AllReadyH.cons rfl (fun Kc hKc => ?_) AllReadyH.nil
          simp only [List.getElem_toArray, List.getElem_cons_succ, List.getElem_cons_zero]
          rw [if_pos (by rfl)]
          go_wp2_with fail
          generalize hwwD : wC.alloc (.cells #[.int .i64 0, .int .i64 0, .map none] 27) = wD at *
          generalize hy : wC.heap.size = y at *
          refine hKc.out _ _ (⟨XS.below BwD, XP.below BwD⟩) (fun hHeld => ?_)
          clear hKc Kc
          have YB := YA
          have XY := YB.row #[.int .i64 ep', .int .i64 0, .map (some b2)]
          have oy : ∀ k, k ≠ y → (wD.setRow y #[.int .i64 ep', .int .i64 0, .map (some b2)]).heap[k]? = wD.heap[k]? := fun k hk => setRow_other _ _ _ _ hk
          have BN := belowR BwD zy #[.int .i64 ep', .int .i64 0, .map (some b2)]
          generalize hwn : wD.setRow y #[.int .i64 ep', .int .i64 0, .map (some b2)] = wn at *
          refine wpAnyH_ready (rs := [11]) (by kernel_rfl) (by simp) ?_
          refine AllReadyH.cons rfl (fun Kc hKc => ?_) AllReadyH.nil
          simp only [List.getElem_toArray, List.getElem_cons_succ, List.getElem_cons_zero]
          rw [if_pos (by rfl)]
          refine wp_store_row 27 _ _ rfl y #[.int .i64 ep', .int .i64 0, .map (some b2)] rfl rfl 27 _ YB Try.infoLs rfl (lall _ _ _) ?_
          rw [hwn]
          refine hKc.out _ _ (⟨XS.below BN, XP.below BN⟩) (fun hHeld => ?_)
          clear hKc Kc
          simp only [Act.put]
          refine wpAnyH_take (i := 12) (v := (.int .i64 ep')) rfl (by kernel_rfl) (by kernel_rfl) (by kernel_rfl) (fun _ _ _ h => h) (Or.inl ⟨by rfl, ?_⟩) (by assumption) ?_
          · intro w' hSw
            go_simp
          simp only [List.getElem_toArray, List.getElem_cons_succ, List.getElem_cons_zero, Act.put, List.setIfInBounds_toArray, List.set_cons_zero, List.set_cons_succ]
          refine wpAnyH_take (i := 13) (v := (.int .i64 0)) rfl (by kernel_rfl) (by kernel_rfl) (by kernel_rfl) (fun _ _ _ h => h) (Or.inl ⟨by rfl, ?_⟩) (by assumption) ?_
          · intro w' hSw
            go_simp
          simp only [List.getElem_toArray, List.getElem_cons_succ, List.getElem_cons_zero, Act.put, List.setIfInBounds_toArray, List.set_cons_zero, List.set_cons_succ]
          refine wpAnyH_done (by kernel_rfl) ?_ _
          have MN := MA.below BN
          have NWn : MapAt Hg.val wn b2 L' := NW.keep ((oy b2 (by have := NW.lt; omega)).trans (BA.block b2 (by have := NW.lt; omega)))
          have hb3 : B0 ≤ b2 := (by omega)
          have MS := MN.setS ep' NWn hb3
          have BWn := belowR (below_then BWA BN) (show w.heap.size ≤ bs from HBS.out.1) #[.int .i64 ep', .int .i64 0, .map (some b2)]
          have XSn := MN.xs
          generalize hws : wn.setRow bs #[.int .i64 ep', .int .i64 0, .map (some b2)] = wz at *
          go_upto_region 30 with (first | (refine wpList_load_row rfl 27 _ rfl y rfl 27 _ (0, 0) _ XY Try.underlying27 rfl Try.infoLs ?_) | (refine wpList_store_row rfl 27 _ _ rfl bs _ rfl rfl 27 _ XSn Try.infoLs rfl (lall _ _ _) ?_; rw [hws]))
          have XHz := MS.xh
          have XPz := BPL.out wz MS.rest
          have hsz2 := MS.size
          have hhb := MS.lth
          refine wp_region_late (S := fun w' => Blk w' bh 38 #[.int .i64 0, .int .i64 cn, .map mw, .map mh] ∧ Blk w' w.heap.size 23 #[.int .i64 te, .int .i64 ma]) 10 (by kernel_rfl) (⟨XHz, XPz⟩) (fun hHeld => ?_)
          have Bwf : Below wz.heap.size wz wz.drew := (Below.refl wz.heap.size wz).drew
          generalize hwf : wz.drew = wf at *
          refine wpLate_take (i := 0) (v := (.agg #[.int .i64 0, .int .i64 cn, .map mw, .map mh])) rfl (by kernel_rfl) (by kernel_rfl) (by kernel_rfl) (by kernel_rfl) (by kernel_rfl) (fun _ _ _ h => h) (Or.inl ⟨by rfl, ?_⟩) (by assumption) ?_
          · intro w' hSw
            have y0 : w'.cell? ⟨bh, 0, none⟩ = some (.int .i64 0) := hSw.1.cell 0 rfl
            have y1 : w'.cell? ⟨bh, 1, none⟩ = some (.int .i64 cn) := hSw.1.cell 1 rfl
            have y2 : w'.cell? ⟨bh, 2, none⟩ = some (.map mw) := hSw.1.cell 2 rfl
            have y3 : w'.cell? ⟨bh, 3, none⟩ = some (.map mh) := hSw.1.cell 3 rfl
            go_simp
          simp only [List.getElem_toArray, List.getElem_cons_zero, Act.put, List.setIfInBounds_toArray, List.set_cons_zero, List.set_cons_succ]
          refine wpLate_take (i := 1) (v := (.pointer (some ⟨bc, 0, none⟩))) rfl (by kernel_rfl) (by kernel_rfl) (by kernel_rfl) (by kernel_rfl) (by kernel_rfl) (fun _ _ _ h => h) (Or.inl ⟨by rfl, ?_⟩) (by assumption) ?_
          · intro w' hSw
            go_simp
          simp only [List.getElem_toArray, List.getElem_cons_succ, List.getElem_cons_zero, Act.put, List.setIfInBounds_toArray, List.set_cons_zero, List.set_cons_succ]
          refine wpLate_take (i := 3) (v := (.agg #[.int .i64 te, .int .i64 ma])) rfl (by kernel_rfl) (by kernel_rfl) (by kernel_rfl) (by kernel_rfl) (by kernel_rfl) (fun _ _ _ h => h) (Or.inl ⟨by rfl, ?_⟩) (by assumption) ?_
          · intro w' hSw
            have y0 : w'.cell? ⟨w.heap.size, 0, none⟩ = some (.int .i64 te) := hSw.2.cell 0 rfl
            have y1 : w'.cell? ⟨w.heap.size, 1, none⟩ = some (.int .i64 ma) := hSw.2.cell 1 rfl
            go_simp
          simp only [List.getElem_toArray, List.getElem_cons_succ, List.getElem_cons_zero, Act.put, List.setIfInBounds_toArray, List.set_cons_zero, List.set_cons_succ]
          refine wpLate_take (i := 4) (v := (.int .i64 num)) rfl (by kernel_rfl) (by kernel_rfl) (by kernel_rfl) (by kernel_rfl) (by kernel_rfl) (fun _ _ _ h => h) (Or.inl ⟨by rfl, ?_⟩) (by assumption) ?_
          · intro w' hSw
            go_simp
          simp only [List.getElem_toArray, List.getElem_cons_succ, List.getElem_cons_zero, Act.put, List.setIfInBounds_toArray, List.set_cons_zero, List.set_cons_succ]
          refine wpLate_take (i := 5) (v := (.int .i64 ep')) rfl (by kernel_rfl) (by kernel_rfl) (by kernel_rfl) (by kernel_rfl) (by kernel_rfl) (fun _ _ _ h => h) (Or.inl ⟨by rfl, ?_⟩) (by assumption) ?_
          · intro w' hSw
            go_simp
          simp only [List.getElem_toArray, List.getElem_cons_succ, List.getElem_cons_zero, Act.put, List.setIfInBounds_toArray, List.set_cons_zero, List.set_cons_succ]
          refine wpLate_ready (rs := [2]) (by kernel_rfl) (by simp) ?_
          refine wpLate_cons rfl (fun Kc hKc => ?_) wpLate_nil
          simp only [List.getElem_toArray, List.getElem_cons_succ, List.getElem_cons_zero]
          rw [if_pos (by rfl)]
          go_wp2_with fail
          refine (Clk.nowI ((MS.below Bwf).ck)).mono ?_
          rintro e wq ⟨rfl, hwq⟩
          obtain rfl := hwq.symm
          go_wp2_with fail
          refine hKc.out _ _ (fun _ _ => ⟨XHz.below Bwf, XPz.below Bwf⟩) ?_
          clear hKc Kc
          refine wpLate_ready (rs := [6]) (by kernel_rfl) (by simp) ?_
          refine wpLate_cons rfl (fun Kc hKc => ?_) wpLate_nil
          simp only [List.getElem_toArray, List.getElem_cons_succ, List.getElem_cons_zero]
          rw [if_pos (by rfl)]
          go_wp2_with fail
          refine (HGRD.out wf mw mh (MS.below Bwf).hW (MS.below Bwf).hH).mono ?_
          rintro e wg ⟨bw, bh2, rfl, NX, BX⟩
          have Bwg := below_then Bwf BX
          have zwf := Bwf.size
          go_wp2_with fail
          refine hKc.out _ _ (fun _ _ => ⟨XHz.below Bwg, XPz.below Bwg⟩) ?_
          clear hKc Kc
          have hHg : Blk wg bh 38 #[.int .i64 0, .int .i64 cn, .map mw, .map mh] ∧ Blk wg w.heap.size 23 #[.int .i64 te, .int .i64 ma] := ⟨XHz.below Bwg, XPz.below Bwg⟩
          refine wpLate_take (i := 7) (v := (.tuple #[.agg #[.int .i64 0, .int .i64 cn, .map (some bw), .map (some bh2)], .int .i64 c9])) rfl (by kernel_rfl) (by kernel_rfl) (by kernel_rfl) (by kernel_rfl) (by kernel_rfl) (fun _ _ _ h => h) (Or.inl ⟨by rfl, ?_⟩) (by assumption) ?_
          · intro w' hSw
            go_simp
          simp only [List.getElem_toArray, List.getElem_cons_succ, List.getElem_cons_zero, Act.put, List.setIfInBounds_toArray, List.set_cons_zero, List.set_cons_succ]
          refine wpLate_take (i := 8) (v := (.agg #[.int .i64 0, .int .i64 cn, .map (some bw), .map (some bh2)])) rfl (by kernel_rfl) (by kernel_rfl) (by kernel_rfl) (by kernel_rfl) (by kernel_rfl) (fun _ _ _ h => h) (Or.inl ⟨by rfl, ?_⟩) (by assumption) ?_
          · intro w' hSw
            go_simp
          simp only [List.getElem_toArray, List.getElem_cons_succ, List.getElem_cons_zero, Act.put, List.setIfInBounds_toArray, List.set_cons_zero, List.set_cons_succ]
          refine wpLate_pure (i := 9) (v := (.int .i64 c9)) rfl (by decide) (by kernel_rfl) (by kernel_rfl) (by kernel_rfl) (fun _ _ _ h => h) (Or.inl ⟨by rfl, ?_⟩) (fun _ => hHg) ?_
          · intro w' _
            go_simp
          simp only [List.getElem_toArray, List.getElem_cons_succ, List.getElem_cons_zero, Act.put, List.setIfInBounds_toArray, List.set_cons_zero, List.set_cons_succ]
          have MG := MS.below Bwg
          have XHg := XHz.below Bwg
          have MH := MG.setH cn (New.up (B' := B0) (w' := wg) NX (by omega) rfl rfl)
          have BG := belowR (below_then BWn Bwg) HBS.out.2.1 #[.int .i64 0, .int .i64 cn, .map (some bw), .map (some bh2)]
          generalize hwm : wg.setRow bh #[.int .i64 0, .int .i64 cn, .map (some bw), .map (some bh2)] = wm at *
          refine wpLate_ready (rs := [10]) (by kernel_rfl) (by simp) ?_
          refine wpLate_cons rfl (fun Kc hKc => ?_) wpLate_nil
          simp only [List.getElem_toArray, List.getElem_cons_succ, List.getElem_cons_zero]
          rw [if_pos (by rfl)]
          refine wp_store_row 38 _ _ rfl bh #[.int .i64 0, .int .i64 cn, .map (some bw), .map (some bh2)] rfl rfl 38 _ XHg Try.infoHs rfl (sall _ _ _ _) ?_
          rw [hwm]
          refine hKc.out _ _ (fun hne _ => absurd rfl hne) ?_
          clear hKc Kc
          simp only [Act.put]
          refine wpLate_done (by kernel_rfl) ?_ _
          go_wp2_with fail
          go_meet
          case rel => exact ⟨ep', W', Hm', L', cn, ep', some bw, some bh2, some b2, rfl, HP1.out, MH, BG⟩
        · have YA := blk_new wd 27 #[.int .i64 0, .int .i64 0, .map none]
          have BA := belowA wd (.cells #[.int .i64 0, .int .i64 0, .map none] 27)
          have BwG9 := below_then Bwd BA
          have zy : wA.heap.size ≤ wd.heap.size := Bwd.size
          have sy : wd.heap.size < (wd.alloc (.cells #[.int .i64 0, .int .i64 0, .map none] 27)).heap.size := by simp
          simp only [List.getElem_toArray, List.getElem_cons_succ, List.getElem_cons_zero]
          rw [if_pos (by rfl)]
          go_wp2_with fail
          generalize hwwG9 : wd.alloc (.cells #[.int .i64 0, .int .i64 0, .map none] 27) = wG9 at *
          generalize hy : wd.heap.size = y at *
          refine hKc.out _ _ (⟨XS.below BwG9, XP.below BwG9⟩) (fun hHeld => ?_)
          clear hKc Kc
          refine wpAnyH_ready (rs := [5]) (by kernel_rfl) (by simp) ?_
          refine AllReadyH.cons rfl (fun Kc hKc => ?_) AllReadyH.nil
          simp only [List.getElem_toArray, List.getElem_cons_succ, List.getElem_cons_zero]
          rw [if_pos (by rfl)]
          go_wp2_with fail
          refine (HGRN.out wG9 mo (MA.below BwG9).hL).mono ?_
          rintro e wC ⟨b2, rfl, NW, hb2, BCC⟩
          have BwC : Below wA.heap.size wA wC := below_then BwG9 BCC
          have zcc := BwG9.size
          go_wp2_with fail
          refine hKc.out _ _ (⟨XS.below BwC, XP.below BwC⟩) (fun hHeld => ?_)
          clear hKc Kc
          refine wpAnyH_take (i := 6) (v := (.tuple #[.agg #[.int .i64 ep', .int .i64 0, .map (some b2)], .int .i64 ep', .int .i64 0])) rfl (by kernel_rfl) (by kernel_rfl) (by kernel_rfl) (fun _ _ _ h => h) (Or.inl ⟨by rfl, ?_⟩) (by assumption) ?_
          · intro w' hSw
            go_simp
          simp only [List.getElem_toArray, List.getElem_cons_succ, List.getElem_cons_zero, Act.put, List.setIfInBounds_toArray, List.set_cons_zero, List.set_cons_succ]
          refine wpAnyH_take (i := 7) (v := (.agg #[.int .i64 ep', .int .i64 0, .map (some b2)])) rfl (by kernel_rfl) (by kernel_rfl) (by kernel_rfl) (fun _ _ _ h => h) (Or.inl ⟨by rfl, ?_⟩) (by assumption) ?_
          · intro w' hSw
            go_simp
          simp only [List.getElem_toArray, List.getElem_cons_succ, List.getElem_cons_zero, Act.put, List.setIfInBounds_toArray, List.set_cons_zero, List.set_cons_succ]
          refine wpAnyH_take (i := 8) (v := (.int .i64 ep')) rfl (by kernel_rfl) (by kernel_rfl) (by kernel_rfl) (fun _ _ _ h => h) (Or.inl ⟨by rfl, ?_⟩) (by assumption) ?_
          · intro w' hSw
            go_simp
          simp only [List.getElem_toArray, List.getElem_cons_succ, List.getElem_cons_zero, Act.put, List.setIfInBounds_toArray, List.set_cons_zero, List.set_cons_succ]
          refine wpAnyH_take (i := 9) (v := (.int .i64 0)) rfl (by kernel_rfl) (by kernel_rfl) (by kernel_rfl) (fun _ _ _ h => h) (Or.inl ⟨by rfl, ?_⟩) (by assumption) ?_
          · intro w' hSw
            go_simp
          simp only [List.getElem_toArray, List.getElem_cons_succ, List.getElem_cons_zero, Act.put, List.setIfInBounds_toArray, List.set_cons_zero, List.set_cons_succ]
          have YB := YA.below BCC
          have XY := YB.row #[.int .i64 ep', .int .i64 0, .map (some b2)]
          have oy : ∀ k, k ≠ y → (wC.setRow y #[.int .i64 ep', .int .i64 0, .map (some b2)]).heap[k]? = wC.heap[k]? := fun k hk => setRow_other _ _ _ _ hk
          have BN := belowR BwC zy #[.int .i64 ep', .int .i64 0, .map (some b2)]
          generalize hwn : wC.setRow y #[.int .i64 ep', .int .i64 0, .map (some b2)] = wn at *
          refine wpAnyH_ready (rs := [11]) (by kernel_rfl) (by simp) ?_
          refine AllReadyH.cons rfl (fun Kc hKc => ?_) AllReadyH.nil
          simp only [List.getElem_toArray, List.getElem_cons_succ, List.getElem_cons_zero]
          rw [if_pos (by rfl)]
          refine wp_store_row 27 _ _ rfl y #[.int .i64 ep', .int .i64 0, .map (some b2)] rfl rfl 27 _ YB Try.infoLs rfl (lall _ _ _) ?_
          rw [hwn]
          refine hKc.out _ _ (⟨XS.below BN, XP.below BN⟩) (fun hHeld => ?_)
          clear hKc Kc
          simp only [Act.put]
          refine wpAnyH_take (i := 12) (v := (.int .i64 ep')) rfl (by kernel_rfl) (by kernel_rfl) (by kernel_rfl) (fun _ _ _ h => h) (Or.inl ⟨by rfl, ?_⟩) (by assumption) ?_
          · intro w' hSw
            go_simp
          simp only [List.getElem_toArray, List.getElem_cons_succ, List.getElem_cons_zero, Act.put, List.setIfInBounds_toArray, List.set_cons_zero, List.set_cons_succ]
          refine wpAnyH_take (i := 13) (v := (.int .i64 0)) rfl (by kernel_rfl) (by kernel_rfl) (by kernel_rfl) (fun _ _ _ h => h) (Or.inl ⟨by rfl, ?_⟩) (by assumption) ?_
          · intro w' hSw
            go_simp
          simp only [List.getElem_toArray, List.getElem_cons_succ, List.getElem_cons_zero, Act.put, List.setIfInBounds_toArray, List.set_cons_zero, List.set_cons_succ]
          refine wpAnyH_done (by kernel_rfl) ?_ _
          have MN := MA.below BN
          have NWn : MapAt Hg.val wn b2 L' := NW.keep (oy b2 (by have := hb2; omega))
          have hb3 : B0 ≤ b2 := (by omega)
          have MS := MN.setS ep' NWn hb3
          have BWn := belowR (below_then BWA BN) (show w.heap.size ≤ bs from HBS.out.1) #[.int .i64 ep', .int .i64 0, .map (some b2)]
          have XSn := MN.xs
          generalize hws : wn.setRow bs #[.int .i64 ep', .int .i64 0, .map (some b2)] = wz at *
          go_upto_region 30 with (first | (refine wpList_load_row rfl 27 _ rfl y rfl 27 _ (0, 0) _ XY Try.underlying27 rfl Try.infoLs ?_) | (refine wpList_store_row rfl 27 _ _ rfl bs _ rfl rfl 27 _ XSn Try.infoLs rfl (lall _ _ _) ?_; rw [hws]))
          have XHz := MS.xh
          have XPz := BPL.out wz MS.rest
          have hsz2 := MS.size
          have hhb := MS.lth
          refine wp_region_late (S := fun w' => Blk w' bh 38 #[.int .i64 0, .int .i64 cn, .map mw, .map mh] ∧ Blk w' w.heap.size 23 #[.int .i64 te, .int .i64 ma]) 10 (by kernel_rfl) (⟨XHz, XPz⟩) (fun hHeld => ?_)
          have Bwf : Below wz.heap.size wz wz.drew := (Below.refl wz.heap.size wz).drew
          generalize hwf : wz.drew = wf at *
          refine wpLate_take (i := 0) (v := (.agg #[.int .i64 0, .int .i64 cn, .map mw, .map mh])) rfl (by kernel_rfl) (by kernel_rfl) (by kernel_rfl) (by kernel_rfl) (by kernel_rfl) (fun _ _ _ h => h) (Or.inl ⟨by rfl, ?_⟩) (by assumption) ?_
          · intro w' hSw
            have y0 : w'.cell? ⟨bh, 0, none⟩ = some (.int .i64 0) := hSw.1.cell 0 rfl
            have y1 : w'.cell? ⟨bh, 1, none⟩ = some (.int .i64 cn) := hSw.1.cell 1 rfl
            have y2 : w'.cell? ⟨bh, 2, none⟩ = some (.map mw) := hSw.1.cell 2 rfl
            have y3 : w'.cell? ⟨bh, 3, none⟩ = some (.map mh) := hSw.1.cell 3 rfl
            go_simp
          simp only [List.getElem_toArray, List.getElem_cons_zero, Act.put, List.setIfInBounds_toArray, List.set_cons_zero, List.set_cons_succ]
          refine wpLate_take (i := 1) (v := (.pointer (some ⟨bc, 0, none⟩))) rfl (by kernel_rfl) (by kernel_rfl) (by kernel_rfl) (by kernel_rfl) (by kernel_rfl) (fun _ _ _ h => h) (Or.inl ⟨by rfl, ?_⟩) (by assumption) ?_
          · intro w' hSw
            go_simp
          simp only [List.getElem_toArray, List.getElem_cons_succ, List.getElem_cons_zero, Act.put, List.setIfInBounds_toArray, List.set_cons_zero, List.set_cons_succ]
          refine wpLate_take (i := 3) (v := (.agg #[.int .i64 te, .int .i64 ma])) rfl (by kernel_rfl) (by kernel_rfl) (by kernel_rfl) (by kernel_rfl) (by kernel_rfl) (fun _ _ _ h => h) (Or.inl ⟨by rfl, ?_⟩) (by assumption) ?_
          · intro w' hSw
            have y0 : w'.cell? ⟨w.heap.size, 0, none⟩ = some (.int .i64 te) := hSw.2.cell 0 rfl
            have y1 : w'.cell? ⟨w.heap.size, 1, none⟩ = some (.int .i64 ma) := hSw.2.cell 1 rfl
            go_simp
          simp only [List.getElem_toArray, List.getElem_cons_succ, List.getElem_cons_zero, Act.put, List.setIfInBounds_toArray, List.set_cons_zero, List.set_cons_succ]
          refine wpLate_take (i := 4) (v := (.int .i64 num)) rfl (by kernel_rfl) (by kernel_rfl) (by kernel_rfl) (by kernel_rfl) (by kernel_rfl) (fun _ _ _ h => h) (Or.inl ⟨by rfl, ?_⟩) (by assumption) ?_
          · intro w' hSw
            go_simp
          simp only [List.getElem_toArray, List.getElem_cons_succ, List.getElem_cons_zero, Act.put, List.setIfInBounds_toArray, List.set_cons_zero, List.set_cons_succ]
          refine wpLate_take (i := 5) (v := (.int .i64 ep')) rfl (by kernel_rfl) (by kernel_rfl) (by kernel_rfl) (by kernel_rfl) (by kernel_rfl) (fun _ _ _ h => h) (Or.inl ⟨by rfl, ?_⟩) (by assumption) ?_
          · intro w' hSw
            go_simp
          simp only [List.getElem_toArray, List.getElem_cons_succ, List.getElem_cons_zero, Act.put, List.setIfInBounds_toArray, List.set_cons_zero, List.set_cons_succ]
          refine wpLate_ready (rs := [2]) (by kernel_rfl) (by simp) ?_
          refine wpLate_cons rfl (fun Kc hKc => ?_) wpLate_nil
          simp only [List.getElem_toArray, List.getElem_cons_succ, List.getElem_cons_zero]
          rw [if_pos (by rfl)]
          go_wp2_with fail
          refine (Clk.nowI ((MS.below Bwf).ck)).mono ?_
          rintro e wq ⟨rfl, hwq⟩
          obtain rfl := hwq.symm
          go_wp2_with fail
          refine hKc.out _ _ (fun _ _ => ⟨XHz.below Bwf, XPz.below Bwf⟩) ?_
          clear hKc Kc
          refine wpLate_ready (rs := [6]) (by kernel_rfl) (by simp) ?_
          refine wpLate_cons rfl (fun Kc hKc => ?_) wpLate_nil
          simp only [List.getElem_toArray, List.getElem_cons_succ, List.getElem_cons_zero]
          rw [if_pos (by rfl)]
          go_wp2_with fail
          refine (HGRD.out wf mw mh (MS.below Bwf).hW (MS.below Bwf).hH).mono ?_
          rintro e wg ⟨bw, bh2, rfl, NX, BX⟩
          have Bwg := below_then Bwf BX
          have zwf := Bwf.size
          go_wp2_with fail
          refine hKc.out _ _ (fun _ _ => ⟨XHz.below Bwg, XPz.below Bwg⟩) ?_
          clear hKc Kc
          have hHg : Blk wg bh 38 #[.int .i64 0, .int .i64 cn, .map mw, .map mh] ∧ Blk wg w.heap.size 23 #[.int .i64 te, .int .i64 ma] := ⟨XHz.below Bwg, XPz.below Bwg⟩
          refine wpLate_take (i := 7) (v := (.tuple #[.agg #[.int .i64 0, .int .i64 cn, .map (some bw), .map (some bh2)], .int .i64 c9])) rfl (by kernel_rfl) (by kernel_rfl) (by kernel_rfl) (by kernel_rfl) (by kernel_rfl) (fun _ _ _ h => h) (Or.inl ⟨by rfl, ?_⟩) (by assumption) ?_
          · intro w' hSw
            go_simp
          simp only [List.getElem_toArray, List.getElem_cons_succ, List.getElem_cons_zero, Act.put, List.setIfInBounds_toArray, List.set_cons_zero, List.set_cons_succ]
          refine wpLate_take (i := 8) (v := (.agg #[.int .i64 0, .int .i64 cn, .map (some bw), .map (some bh2)])) rfl (by kernel_rfl) (by kernel_rfl) (by kernel_rfl) (by kernel_rfl) (by kernel_rfl) (fun _ _ _ h => h) (Or.inl ⟨by rfl, ?_⟩) (by assumption) ?_
          · intro w' hSw
            go_simp
          simp only [List.getElem_toArray, List.getElem_cons_succ, List.getElem_cons_zero, Act.put, List.setIfInBounds_toArray, List.set_cons_zero, List.set_cons_succ]
          refine wpLate_pure (i := 9) (v := (.int .i64 c9)) rfl (by decide) (by kernel_rfl) (by kernel_rfl) (by kernel_rfl) (fun _ _ _ h => h) (Or.inl ⟨by rfl, ?_⟩) (fun _ => hHg) ?_
          · intro w' _
            go_simp
          simp only [List.getElem_toArray, List.getElem_cons_succ, List.getElem_cons_zero, Act.put, List.setIfInBounds_toArray, List.set_cons_zero, List.set_cons_succ]
          have MG := MS.below Bwg
          have XHg := XHz.below Bwg
          have MH := MG.setH cn (New.up (B' := B0) (w' := wg) NX (by omega) rfl rfl)
          have BG := belowR (below_then BWn Bwg) HBS.out.2.1 #[.int .i64 0, .int .i64 cn, .map (some bw), .map (some bh2)]
          generalize hwm : wg.setRow bh #[.int .i64 0, .int .i64 cn, .map (some bw), .map (some bh2)] = wm at *
          refine wpLate_ready (rs := [10]) (by kernel_rfl) (by simp) ?_
          refine wpLate_cons rfl (fun Kc hKc => ?_) wpLate_nil
          simp only [List.getElem_toArray, List.getElem_cons_succ, List.getElem_cons_zero]
          rw [if_pos (by rfl)]
          refine wp_store_row 38 _ _ rfl bh #[.int .i64 0, .int .i64 cn, .map (some bw), .map (some bh2)] rfl rfl 38 _ XHg Try.infoHs rfl (sall _ _ _ _) ?_
          rw [hwm]
          refine hKc.out _ _ (fun hne _ => absurd rfl hne) ?_
          clear hKc Kc
          simp only [Act.put]
          refine wpLate_done (by kernel_rfl) ?_ _
          go_wp2_with fail
          go_meet
          case rel => exact ⟨ep', W', Hm', L', cn, ep', some bw, some bh2, some b2, rfl, HP1.out, MH, BG⟩
      · have YA := blk_new wd 27 #[.int .i64 0, .int .i64 0, .map none]
        have BA := belowA wd (.cells #[.int .i64 0, .int .i64 0, .map none] 27)
        have BwG9 := below_then Bwd BA
        have zy : wA.heap.size ≤ wd.heap.size := Bwd.size
        have sy : wd.heap.size < (wd.alloc (.cells #[.int .i64 0, .int .i64 0, .map none] 27)).heap.size := by simp
        simp only [List.getElem_toArray, List.getElem_cons_succ, List.getElem_cons_zero]
        rw [if_pos (by rfl)]
        go_wp2_with fail
        generalize hwwG9 : wd.alloc (.cells #[.int .i64 0, .int .i64 0, .map none] 27) = wG9 at *
        generalize hy : wd.heap.size = y at *
        refine hKc.out _ _ (⟨XS.below BwG9, XP.below BwG9⟩) (fun hHeld => ?_)
        clear hKc Kc
        refine wpAnyH_ready (rs := [2]) (by kernel_rfl) (by simp) ?_
        refine AllReadyH.cons rfl (fun Kc hKc => ?_) AllReadyH.nil
        simp only [List.getElem_toArray, List.getElem_cons_succ, List.getElem_cons_zero]
        rw [if_pos (by rfl)]
        go_wp2_with fail
        refine (Clk.nowO ((MA.below BwG9).ck)).mono ?_
        rintro e wq ⟨rfl, hwq⟩
        obtain rfl := hwq.symm
        go_wp2_with fail
        refine hKc.out _ _ (⟨XS.below BwG9, XP.below BwG9⟩) (fun hHeld => ?_)
        clear hKc Kc
        refine wpAnyH_ready (rs := [5]) (by kernel_rfl) (by simp) ?_
        refine AllReadyH.cons rfl (fun Kc hKc => ?_) AllReadyH.nil
        simp only [List.getElem_toArray, List.getElem_cons_succ, List.getElem_cons_zero]
        rw [if_pos (by rfl)]
        go_wp2_with fail
        refine (HGRN.out wG9 mo (MA.below BwG9).hL).mono ?_
        rintro e wC ⟨b2, rfl, NW, hb2, BCC⟩
        have BwC : Below wA.heap.size wA wC := below_then BwG9 BCC
        have zcc := BwG9.size
        go_wp2_with fail
        refine hKc.out _ _ (⟨XS.below BwC, XP.below BwC⟩) (fun hHeld => ?_)
        clear hKc Kc
        refine wpAnyH_take (i := 6) (v := (.tuple #[.agg #[.int .i64 ep', .int .i64 0, .map (some b2)], .int .i64 ep', .int .i64 0])) rfl (by kernel_rfl) (by kernel_rfl) (by kernel_rfl) (fun _ _ _ h => h) (Or.inl ⟨by rfl, ?_⟩) (by assumption) ?_
        · intro w' hSw
          go_simp
        simp only [List.getElem_toArray, List.getElem_cons_succ, List.getElem_cons_zero, Act.put, List.setIfInBounds_toArray, List.set_cons_zero, List.set_cons_succ]
        refine wpAnyH_take (i := 7) (v := (.agg #[.int .i64 ep', .int .i64 0, .map (some b2)])) rfl (by kernel_rfl) (by kernel_rfl) (by kernel_rfl) (fun _ _ _ h => h) (Or.inl ⟨by rfl, ?_⟩) (by assumption) ?_
        · intro w' hSw
          go_simp
        simp only [List.getElem_toArray, List.getElem_cons_succ, List.getElem_cons_zero, Act.put, List.setIfInBounds_toArray, List.set_cons_zero, List.set_cons_succ]
        refine wpAnyH_take (i := 8) (v := (.int .i64 ep')) rfl (by kernel_rfl) (by kernel_rfl) (by kernel_rfl) (fun _ _ _ h => h) (Or.inl ⟨by rfl, ?_⟩) (by assumption) ?_
        · intro w' hSw
          go_simp
        simp only [List.getElem_toArray, List.getElem_cons_succ, List.getElem_cons_zero, Act.put, List.setIfInBounds_toArray, List.set_cons_zero, List.set_cons_succ]
        refine wpAnyH_take (i := 9) (v := (.int .i64 0)) rfl (by kernel_rfl) (by kernel_rfl) (by kernel_rfl) (fun _ _ _ h => h) (Or.inl ⟨by rfl, ?_⟩) (by assumption) ?_
        · intro w' hSw
          go_simp
        simp only [List.getElem_toArray, List.getElem_cons_succ, List.getElem_cons_zero, Act.put, List.setIfInBounds_toArray, List.set_cons_zero, List.set_cons_succ]
        have YB := YA.below BCC
        have XY := YB.row #[.int .i64 ep', .int .i64 0, .map (some b2)]
        have oy : ∀ k, k ≠ y → (wC.setRow y #[.int .i64 ep', .int .i64 0, .map (some b2)]).heap[k]? = wC.heap[k]? := fun k hk => setRow_other _ _ _ _ hk
        have BN := belowR BwC zy #[.int .i64 ep', .int .i64 0, .map (some b2)]
        generalize hwn : wC.setRow y #[.int .i64 ep', .int .i64 0, .map (some b2)] = wn at *
        refine wpAnyH_ready (rs := [11]) (by kernel_rfl) (by simp) ?_
        refine AllReadyH.cons rfl (fun Kc hKc => ?_) AllReadyH.nil
        simp only [List.getElem_toArray, List.getElem_cons_succ, List.getElem_cons_zero]
        rw [if_pos (by rfl)]
        refine wp_store_row 27 _ _ rfl y #[.int .i64 ep', .int .i64 0, .map (some b2)] rfl rfl 27 _ YB Try.infoLs rfl (lall _ _ _) ?_
        rw [hwn]
        refine hKc.out _ _ (⟨XS.below BN, XP.below BN⟩) (fun hHeld => ?_)
        clear hKc Kc
        simp only [Act.put]
        refine wpAnyH_take (i := 12) (v := (.int .i64 ep')) rfl (by kernel_rfl) (by kernel_rfl) (by kernel_rfl) (fun _ _ _ h => h) (Or.inl ⟨by rfl, ?_⟩) (by assumption) ?_
        · intro w' hSw
          go_simp
        simp only [List.getElem_toArray, List.getElem_cons_succ, List.getElem_cons_zero, Act.put, List.setIfInBounds_toArray, List.set_cons_zero, List.set_cons_succ]
        refine wpAnyH_take (i := 13) (v := (.int .i64 0)) rfl (by kernel_rfl) (by kernel_rfl) (by kernel_rfl) (fun _ _ _ h => h) (Or.inl ⟨by rfl, ?_⟩) (by assumption) ?_
        · intro w' hSw
          go_simp
        simp only [List.getElem_toArray, List.getElem_cons_succ, List.getElem_cons_zero, Act.put, List.setIfInBounds_toArray, List.set_cons_zero, List.set_cons_succ]
        refine wpAnyH_done (by kernel_rfl) ?_ _
        have MN := MA.below BN
        have NWn : MapAt Hg.val wn b2 L' := NW.keep (oy b2 (by have := hb2; omega))
        have hb3 : B0 ≤ b2 := (by omega)
        have MS := MN.setS ep' NWn hb3
        have BWn := belowR (below_then BWA BN) (show w.heap.size ≤ bs from HBS.out.1) #[.int .i64 ep', .int .i64 0, .map (some b2)]
        have XSn := MN.xs
        generalize hws : wn.setRow bs #[.int .i64 ep', .int .i64 0, .map (some b2)] = wz at *
        go_upto_region 30 with (first | (refine wpList_load_row rfl 27 _ rfl y rfl 27 _ (0, 0) _ XY Try.underlying27 rfl Try.infoLs ?_) | (refine wpList_store_row rfl 27 _ _ rfl bs _ rfl rfl 27 _ XSn Try.infoLs rfl (lall _ _ _) ?_; rw [hws]))
        have XHz := MS.xh
        have XPz := BPL.out wz MS.rest
        have hsz2 := MS.size
        have hhb := MS.lth
        refine wp_region_late (S := fun w' => Blk w' bh 38 #[.int .i64 0, .int .i64 cn, .map mw, .map mh] ∧ Blk w' w.heap.size 23 #[.int .i64 te, .int .i64 ma]) 10 (by kernel_rfl) (⟨XHz, XPz⟩) (fun hHeld => ?_)
        have Bwf : Below wz.heap.size wz wz.drew := (Below.refl wz.heap.size wz).drew
        generalize hwf : wz.drew = wf at *
        refine wpLate_take (i := 0) (v := (.agg #[.int .i64 0, .int .i64 cn, .map mw, .map mh])) rfl (by kernel_rfl) (by kernel_rfl) (by kernel_rfl) (by kernel_rfl) (by kernel_rfl) (fun _ _ _ h => h) (Or.inl ⟨by rfl, ?_⟩) (by assumption) ?_
        · intro w' hSw
          have y0 : w'.cell? ⟨bh, 0, none⟩ = some (.int .i64 0) := hSw.1.cell 0 rfl
          have y1 : w'.cell? ⟨bh, 1, none⟩ = some (.int .i64 cn) := hSw.1.cell 1 rfl
          have y2 : w'.cell? ⟨bh, 2, none⟩ = some (.map mw) := hSw.1.cell 2 rfl
          have y3 : w'.cell? ⟨bh, 3, none⟩ = some (.map mh) := hSw.1.cell 3 rfl
          go_simp
        simp only [List.getElem_toArray, List.getElem_cons_zero, Act.put, List.setIfInBounds_toArray, List.set_cons_zero, List.set_cons_succ]
        refine wpLate_take (i := 1) (v := (.pointer (some ⟨bc, 0, none⟩))) rfl (by kernel_rfl) (by kernel_rfl) (by kernel_rfl) (by kernel_rfl) (by kernel_rfl) (fun _ _ _ h => h) (Or.inl ⟨by rfl, ?_⟩) (by assumption) ?_
        · intro w' hSw
          go_simp
        simp only [List.getElem_toArray, List.getElem_cons_succ, List.getElem_cons_zero, Act.put, List.setIfInBounds_toArray, List.set_cons_zero, List.set_cons_succ]
        refine wpLate_take (i := 3) (v := (.agg #[.int .i64 te, .int .i64 ma])) rfl (by kernel_rfl) (by kernel_rfl) (by kernel_rfl) (by kernel_rfl) (by kernel_rfl) (fun _ _ _ h => h) (Or.inl ⟨by rfl, ?_⟩) (by assumption) ?_
        · intro w' hSw
          have y0 : w'.cell? ⟨w.heap.size, 0, none⟩ = some (.int .i64 te) := hSw.2.cell 0 rfl
          have y1 : w'.cell? ⟨w.heap.size, 1, none⟩ = some (.int .i64 ma) := hSw.2.cell 1 rfl
          go_simp
        simp only [List.getElem_toArray, List.getElem_cons_succ, List.getElem_cons_zero, Act.put, List.setIfInBounds_toArray, List.set_cons_zero, List.set_cons_succ]
        refine wpLate_take (i := 4) (v := (.int .i64 num)) rfl (by kernel_rfl) (by kernel_rfl) (by kernel_rfl) (by kernel_rfl) (by kernel_rfl) (fun _ _ _ h => h) (Or.inl ⟨by rfl, ?_⟩) (by assumption) ?_
        · intro w' hSw
          go_simp
        simp only [List.getElem_toArray, List.getElem_cons_succ, List.getElem_cons_zero, Act.put, List.setIfInBounds_toArray, List.set_cons_zero, List.set_cons_succ]
        refine wpLate_take (i := 5) (v := (.int .i64 ep')) rfl (by kernel_rfl) (by kernel_rfl) (by kernel_rfl) (by kernel_rfl) (by kernel_rfl) (fun _ _ _ h => h) (Or.inl ⟨by rfl, ?_⟩) (by assumption) ?_
        · intro w' hSw
          go_simp
        simp only [List.getElem_toArray, List.getElem_cons_succ, List.getElem_cons_zero, Act.put, List.setIfInBounds_toArray, List.set_cons_zero, List.set_cons_succ]
        refine wpLate_ready (rs := [2]) (by kernel_rfl) (by simp) ?_
        refine wpLate_cons rfl (fun Kc hKc => ?_) wpLate_nil
        simp only [List.getElem_toArray, List.getElem_cons_succ, List.getElem_cons_zero]
        rw [if_pos (by rfl)]
        go_wp2_with fail
        refine (Clk.nowI ((MS.below Bwf).ck)).mono ?_
        rintro e wq ⟨rfl, hwq⟩
        obtain rfl := hwq.symm
        go_wp2_with fail
        refine hKc.out _ _ (fun _ _ => ⟨XHz.below Bwf, XPz.below Bwf⟩) ?_
        clear hKc Kc
        refine wpLate_ready (rs := [6]) (by kernel_rfl) (by simp) ?_
        refine wpLate_cons rfl (fun Kc hKc => ?_) wpLate_nil
        simp only [List.getElem_toArray, List.getElem_cons_succ, List.getElem_cons_zero]
        rw [if_pos (by rfl)]
        go_wp2_with fail
        refine (HGRD.out wf mw mh (MS.below Bwf).hW (MS.below Bwf).hH).mono ?_
        rintro e wg ⟨bw, bh2, rfl, NX, BX⟩
        have Bwg := below_then Bwf BX
        have zwf := Bwf.size
        go_wp2_with fail
        refine hKc.out _ _ (fun _ _ => ⟨XHz.below Bwg, XPz.below Bwg⟩) ?_
        clear hKc Kc
        have hHg : Blk wg bh 38 #[.int .i64 0, .int .i64 cn, .map mw, .map mh] ∧ Blk wg w.heap.size 23 #[.int .i64 te, .int .i64 ma] := ⟨XHz.below Bwg, XPz.below Bwg⟩
        refine wpLate_take (i := 7) (v := (.tuple #[.agg #[.int .i64 0, .int .i64 cn, .map (some bw), .map (some bh2)], .int .i64 c9])) rfl (by kernel_rfl) (by kernel_rfl) (by kernel_rfl) (by kernel_rfl) (by kernel_rfl) (fun _ _ _ h => h) (Or.inl ⟨by rfl, ?_⟩) (by assumption) ?_
        · intro w' hSw
          go_simp
        simp only [List.getElem_toArray, List.getElem_cons_succ, List.getElem_cons_zero, Act.put, List.setIfInBounds_toArray, List.set_cons_zero, List.set_cons_succ]
        refine wpLate_take (i := 8) (v := (.agg #[.int .i64 0, .int .i64 cn, .map (some bw), .map (some bh2)])) rfl (by kernel_rfl) (by kernel_rfl) (by kernel_rfl) (by kernel_rfl) (by kernel_rfl) (fun _ _ _ h => h) (Or.inl ⟨by rfl, ?_⟩) (by assumption) ?_
        · intro w' hSw
          go_simp
        simp only [List.getElem_toArray, List.getElem_cons_succ, List.getElem_cons_zero, Act.put, List.setIfInBounds_toArray, List.set_cons_zero, List.set_cons_succ]
        refine wpLate_pure (i := 9) (v := (.int .i64 c9)) rfl (by decide) (by kernel_rfl) (by kernel_rfl) (by kernel_rfl) (fun _ _ _ h => h) (Or.inl ⟨by rfl, ?_⟩) (fun _ => hHg) ?_
        · intro w' _
          go_simp
        simp only [List.getElem_toArray, List.getElem_cons_succ, List.getElem_cons_zero, Act.put, List.setIfInBounds_toArray, List.set_cons_zero, List.set_cons_succ]
        have MG := MS.below Bwg
        have XHg := XHz.below Bwg
        have MH := MG.setH cn (New.up (B' := B0) (w' := wg) NX (by omega) rfl rfl)
        have BG := belowR (below_then BWn Bwg) HBS.out.2.1 #[.int .i64 0, .int .i64 cn, .map (some bw), .map (some bh2)]
        generalize hwm : wg.setRow bh #[.int .i64 0, .int .i64 cn, .map (some bw), .map (some bh2)] = wm at *
        refine wpLate_ready (rs := [10]) (by kernel_rfl) (by simp) ?_
        refine wpLate_cons rfl (fun Kc hKc => ?_) wpLate_nil
        simp only [List.getElem_toArray, List.getElem_cons_succ, List.getElem_cons_zero]
        rw [if_pos (by rfl)]
        refine wp_store_row 38 _ _ rfl bh #[.int .i64 0, .int .i64 cn, .map (some bw), .map (some bh2)] rfl rfl 38 _ XHg Try.infoHs rfl (sall _ _ _ _) ?_
        rw [hwm]
        refine hKc.out _ _ (fun hne _ => absurd rfl hne) ?_
        clear hKc Kc
        simp only [Act.put]
        refine wpLate_done (by kernel_rfl) ?_ _
        go_wp2_with fail
        go_meet
        case rel => exact ⟨ep', W', Hm', L', cn, ep', some bw, some bh2, some b2, rfl, HP1.out, MH, BG⟩
  case rest =>
  clear HPH MA BWA
  obtain ⟨first, W, Hm, L, cn, ep, mw, mh, mo, rfl, hP, MB, BWB⟩ := hcut
  obtain ⟨wB, hwB⟩ : ∃ x, x = wc := ⟨_, rfl⟩
  subst hwB
  obtain ⟨may, be, f, n, ep', L', BEL, GRN, hend⟩ := ph_end2 hP hH9 (by omega) (by omega) (by omega)
  have HPH : Hid (Ph te ma H W Hm L cn ep num first (phG ak gr i)) := hP
  have HBEL : Hid _ := BEL
  have HGRN : Hid _ := GRN
  have HEND : Hid _ := hend
  have XH := MB.xh
  clear hP BEL GRN hend

  go_upto_region 31 with fail
  refine wp_region_held_drew (S := fun w' => Blk w' bh 38 #[.int .i64 0, .int .i64 cn, .map mw, .map mh]) (by kernel_rfl) (XH) (fun hHeld => ?_)
  have Bwd : Below wB.heap.size wB wB.drew := (Below.refl wB.heap.size wB).drew
  generalize hwd : wB.drew = wd at *
  refine wpAnyH_take (i := 0) (v := (.agg #[.int .i64 0, .int .i64 cn, .map mw, .map mh])) rfl (by kernel_rfl) (by kernel_rfl) (by kernel_rfl) (fun _ _ _ h => h) (Or.inl ⟨by rfl, ?_⟩) (by assumption) ?_
  · intro w' hSw
    have y0 : w'.cell? ⟨bh, 0, none⟩ = some (.int .i64 0) := hSw.cell 0 rfl
    have y1 : w'.cell? ⟨bh, 1, none⟩ = some (.int .i64 cn) := hSw.cell 1 rfl
    have y2 : w'.cell? ⟨bh, 2, none⟩ = some (.map mw) := hSw.cell 2 rfl
    have y3 : w'.cell? ⟨bh, 3, none⟩ = some (.map mh) := hSw.cell 3 rfl
    go_simp
  simp only [List.getElem_toArray, List.getElem_cons_zero, Act.put, List.setIfInBounds_toArray, List.set_cons_zero, List.set_cons_succ]
  refine wpAnyH_take (i := 1) (v := (.pointer (some ⟨bc, 0, none⟩))) rfl (by kernel_rfl) (by kernel_rfl) (by kernel_rfl) (fun _ _ _ h => h) (Or.inl ⟨by rfl, ?_⟩) (by assumption) ?_
  · intro w' hSw
    go_simp
  simp only [List.getElem_toArray, List.getElem_cons_succ, List.getElem_cons_zero, Act.put, List.setIfInBounds_toArray, List.set_cons_zero, List.set_cons_succ]
  refine wpAnyH_ready (rs := [2]) (by kernel_rfl) (by simp) ?_
  refine AllReadyH.cons rfl (fun Kc hKc => ?_) AllReadyH.nil
  simp only [List.getElem_toArray, List.getElem_cons_succ, List.getElem_cons_zero]
  rw [if_pos (by rfl)]
  go_wp2_with fail
  refine (Clk.nowI ((MB.below Bwd).ck)).mono ?_
  rintro e wq ⟨rfl, hwq⟩
  obtain rfl := hwq.symm
  go_wp2_with fail
  refine hKc.out _ _ (XH.below Bwd) (fun hHeld => ?_)
  clear hKc Kc
  refine wpAnyH_ready (rs := [3]) (by kernel_rfl) (by simp) ?_
  refine AllReadyH.cons rfl (fun Kc hKc => ?_) AllReadyH.nil
  simp only [List.getElem_toArray, List.getElem_cons_succ, List.getElem_cons_zero]
  rw [if_pos (by rfl)]
  go_wp2_with fail
  refine (HBEL.out wd mw mh (MB.below Bwd).hH).mono ?_
  rintro e wA ⟨rfl, BCC⟩
  have BwA := below_then Bwd BCC
  go_wp2_with fail
  refine hKc.out _ _ (XH.below BwA) (fun hHeld => ?_)
  clear hKc Kc
  refine wpAnyH_take (i := 4) (v := (.tuple #[.int .i64 be, .bool may])) rfl (by kernel_rfl) (by kernel_rfl) (by kernel_rfl) (fun _ _ _ h => h) (Or.inl ⟨by rfl, ?_⟩) (by assumption) ?_
  · intro w' hSw
    go_simp
  simp only [List.getElem_toArray, List.getElem_cons_succ, List.getElem_cons_zero, Act.put, List.setIfInBounds_toArray, List.set_cons_zero, List.set_cons_succ]
  refine wpAnyH_take (i := 5) (v := (.int .i64 be)) rfl (by kernel_rfl) (by kernel_rfl) (by kernel_rfl) (fun _ _ _ h => h) (Or.inl ⟨by rfl, ?_⟩) (by assumption) ?_
  · intro w' hSw
    go_simp
  simp only [List.getElem_toArray, List.getElem_cons_succ, List.getElem_cons_zero, Act.put, List.setIfInBounds_toArray, List.set_cons_zero, List.set_cons_succ]
  refine wpAnyH_take (i := 6) (v := (.bool may)) rfl (by kernel_rfl) (by kernel_rfl) (by kernel_rfl) (fun _ _ _ h => h) (Or.inl ⟨by rfl, ?_⟩) (by assumption) ?_
  · intro w' hSw
    go_simp
  simp only [List.getElem_toArray, List.getElem_cons_succ, List.getElem_cons_zero, Act.put, List.setIfInBounds_toArray, List.set_cons_zero, List.set_cons_succ]
  refine wpAnyH_take (i := 7) (v := (.int .i64 be)) rfl (by kernel_rfl) (by kernel_rfl) (by kernel_rfl) (fun _ _ _ h => h) (Or.inl ⟨by rfl, ?_⟩) (by assumption) ?_
  · intro w' hSw
    go_simp
  simp only [List.getElem_toArray, List.getElem_cons_succ, List.getElem_cons_zero, Act.put, List.setIfInBounds_toArray, List.set_cons_zero, List.set_cons_succ]
  refine wpAnyH_take (i := 8) (v := (.bool may)) rfl (by kernel_rfl) (by kernel_rfl) (by kernel_rfl) (fun _ _ _ h => h) (Or.inl ⟨by rfl, ?_⟩) (by assumption) ?_
  · intro w' hSw
    go_simp
  simp only [List.getElem_toArray, List.getElem_cons_succ, List.getElem_cons_zero, Act.put, List.setIfInBounds_toArray, List.set_cons_zero, List.set_cons_succ]
  refine wpAnyH_done (by kernel_rfl) ?_ _
  have MA := MB.below BwA
  have BWA := below_then BWB BwA
  have hsz := MA.size
  have XS := MA.xs
  have XP := BPL.out wA MA.rest
  clear MB BWB XH hwd Bwd BCC BwA
  go_upto_region 32 with fail
  go_cut [27, 28, 29] (fun s27 s28 s29 wc => ∃ (y b2 : Nat), s27 = .pointer (some ⟨y, 0, none⟩) ∧ s28 = .int .i64 n ∧ s29 = .int .i64 f ∧ Blk wc y 27 #[.int .i64 ep', .int .i64 0, .map (some b2)] ∧ MapAt Hg.val wc b2 L' ∧ Below wA.heap.size wA wc)
  case first =>
    as_aux_lemma =>
      refine wp_region_held_drew (S := fun w' => Blk w' bs 27 #[.int .i64 ep, .int .i64 0, .map mo] ∧ Blk w' w.heap.size 23 #[.int .i64 te, .int .i64 ma]) (by kernel_rfl) (⟨XS, XP⟩) (fun hHeld => ?_)
      have Bwd : Below wA.heap.size wA wA.drew := (Below.refl wA.heap.size wA).drew
      generalize hwd : wA.drew = wd at *
      refine wpAnyH_take (i := 0) (v := (.agg #[.int .i64 ep, .int .i64 0, .map mo])) rfl (by kernel_rfl) (by kernel_rfl) (by kernel_rfl) (fun _ _ _ h => h) (Or.inl ⟨by rfl, ?_⟩) (by assumption) ?_
      · intro w' hSw
        have y0 : w'.cell? ⟨bs, 0, none⟩ = some (.int .i64 ep) := hSw.1.cell 0 rfl
        have y1 : w'.cell? ⟨bs, 1, none⟩ = some (.int .i64 0) := hSw.1.cell 1 rfl
        have y2 : w'.cell? ⟨bs, 2, none⟩ = some (.map mo) := hSw.1.cell 2 rfl
        go_simp
      simp only [List.getElem_toArray, List.getElem_cons_zero, Act.put, List.setIfInBounds_toArray, List.set_cons_zero, List.set_cons_succ]
      refine wpAnyH_take (i := 1) (v := (.pointer (some ⟨bc, 0, none⟩))) rfl (by kernel_rfl) (by kernel_rfl) (by kernel_rfl) (fun _ _ _ h => h) (Or.inl ⟨by rfl, ?_⟩) (by assumption) ?_
      · intro w' hSw
        go_simp
      simp only [List.getElem_toArray, List.getElem_cons_succ, List.getElem_cons_zero, Act.put, List.setIfInBounds_toArray, List.set_cons_zero, List.set_cons_succ]
      refine wpAnyH_take (i := 3) (v := (.pointer (some ⟨w.heap.size, 0, none⟩))) rfl (by kernel_rfl) (by kernel_rfl) (by kernel_rfl) (fun _ _ _ h => h) (Or.inl ⟨by rfl, ?_⟩) (by assumption) ?_
      · intro w' hSw
        go_simp
      simp only [List.getElem_toArray, List.getElem_cons_succ, List.getElem_cons_zero, Act.put, List.setIfInBounds_toArray, List.set_cons_zero, List.set_cons_succ]
      refine wpAnyH_take (i := 4) (v := (.int .i64 te)) rfl (by kernel_rfl) (by kernel_rfl) (by kernel_rfl) (fun _ _ _ h => h) (Or.inl ⟨by rfl, ?_⟩) (by assumption) ?_
      · intro w' hSw
        have y0 : w'.cell? ⟨w.heap.size, 0, none⟩ = some (.int .i64 te) := hSw.2.cell 0 rfl
        go_simp
      simp only [List.getElem_toArray, List.getElem_cons_succ, List.getElem_cons_zero, Act.put, List.setIfInBounds_toArray, List.set_cons_zero, List.set_cons_succ]
      refine wpAnyH_ready (rs := [2, 10]) (by kernel_rfl) (by simp) ?_
      refine AllReadyH.cons rfl (fun Kc hKc => ?_) (AllReadyH.cons rfl (fun Kc hKc => ?_) AllReadyH.nil)
      · simp only [List.getElem_toArray, List.getElem_cons_succ, List.getElem_cons_zero]
        rw [if_pos (by rfl)]
        go_wp2_with fail
        refine (Clk.nowO ((MA.below Bwd).ck)).mono ?_
        rintro e wq ⟨rfl, hwq⟩
        obtain rfl := hwq.symm
        go_wp2_with fail
        refine hKc.out _ _ (⟨XS.below Bwd, XP.below Bwd⟩) (fun hHeld => ?_)
        clear hKc Kc
        refine wpAnyH_ready (rs := [5, 10]) (by kernel_rfl) (by simp) ?_
        refine AllReadyH.cons rfl (fun Kc hKc => ?_) (AllReadyH.cons rfl (fun Kc hKc => ?_) AllReadyH.nil)
        · simp only [List.getElem_toArray, List.getElem_cons_succ, List.getElem_cons_zero]
          rw [if_pos (by rfl)]
          go_wp2_with fail
          refine (HGRN.out wd mo (MA.below Bwd).hL).mono ?_
          rintro e wC ⟨b2, rfl, NW, hb2, BCC⟩
          have BwC : Below wA.heap.size wA wC := below_then Bwd BCC
          have zcc := Bwd.size
          go_wp2_with fail
          refine hKc.out _ _ (⟨XS.below BwC, XP.below BwC⟩) (fun hHeld => ?_)
          clear hKc Kc
          refine wpAnyH_take (i := 6) (v := (.tuple #[.agg #[.int .i64 ep', .int .i64 0, .map (some b2)], .int .i64 n, .int .i64 f])) rfl (by kernel_rfl) (by kernel_rfl) (by kernel_rfl) (fun _ _ _ h => h) (Or.inl ⟨by rfl, ?_⟩) (by assumption) ?_
          · intro w' hSw
            go_simp
          simp only [List.getElem_toArray, List.getElem_cons_succ, List.getElem_cons_zero, Act.put, List.setIfInBounds_toArray, List.set_cons_zero, List.set_cons_succ]
          refine wpAnyH_take (i := 7) (v := (.agg #[.int .i64 ep', .int .i64 0, .map (some b2)])) rfl (by kernel_rfl) (by kernel_rfl) (by kernel_rfl) (fun _ _ _ h => h) (Or.inl ⟨by rfl, ?_⟩) (by assumption) ?_
          · intro w' hSw
            go_simp
          simp only [List.getElem_toArray, List.getElem_cons_succ, List.getElem_cons_zero, Act.put, List.setIfInBounds_toArray, List.set_cons_zero, List.set_cons_succ]
          refine wpAnyH_take (i := 8) (v := (.int .i64 n)) rfl (by kernel_rfl) (by kernel_rfl) (by kernel_rfl) (fun _ _ _ h => h) (Or.inl ⟨by rfl, ?_⟩) (by assumption) ?_
          · intro w' hSw
            go_simp
          simp only [List.getElem_toArray, List.getElem_cons_succ, List.getElem_cons_zero, Act.put, List.setIfInBounds_toArray, List.set_cons_zero, List.set_cons_succ]
          refine wpAnyH_take (i := 9) (v := (.int .i64 f)) rfl (by kernel_rfl) (by kernel_rfl) (by kernel_rfl) (fun _ _ _ h => h) (Or.inl ⟨by rfl, ?_⟩) (by assumption) ?_
          · intro w' hSw
            go_simp
          simp only [List.getElem_toArray, List.getElem_cons_succ, List.getElem_cons_zero, Act.put, List.setIfInBounds_toArray, List.set_cons_zero, List.set_cons_succ]
          have YA := blk_new wC 27 #[.int .i64 0, .int .i64 0, .map none]
          have BA := belowA wC (.cells #[.int .i64 0, .int .i64 0, .map none] 27)
          have BwD := below_then BwC BA
          have zy : wA.heap.size ≤ wC.heap.size := BwC.size
          have sy : wC.heap.size < (wC.alloc (.cells #[.int .i64 0, .int .i64 0, .map none] 27)).heap.size := by simp
          refine wpAnyH_ready (rs := [10]) (by kernel_rfl) (by simp) ?_
          refine AllReadyH.cons rfl (fun Kc hKc => ?_) AllReadyH.nil
          simp only [List.getElem_toArray, List.getElem_cons_succ, List.getElem_cons_zero]
          rw [if_pos (by rfl)]
          go_wp2_with fail
          generalize hwwD : wC.alloc (.cells #[.int .i64 0, .int .i64 0, .map none] 27) = wD at *
          generalize hy : wC.heap.size = y at *
          refine hKc.out _ _ (⟨XS.below BwD, XP.below BwD⟩) (fun hHeld => ?_)
          clear hKc Kc
          have YB := YA
          have XY := YB.row #[.int .i64 ep', .int .i64 0, .map (some b2)]
          have oy : ∀ k, k ≠ y → (wD.setRow y #[.int .i64 ep', .int .i64 0, .map (some b2)]).heap[k]? = wD.heap[k]? := fun k hk => setRow_other _ _ _ _ hk
          have BN := belowR BwD zy #[.int .i64 ep', .int .i64 0, .map (some b2)]
          generalize hwn : wD.setRow y #[.int .i64 ep', .int .i64 0, .map (some b2)] = wn at *
          refine wpAnyH_ready (rs := [11]) (by kernel_rfl) (by simp) ?_
          refine AllReadyH.cons rfl (fun Kc hKc => ?_) AllReadyH.nil
          simp only [List.getElem_toArray, List.getElem_cons_succ, List.getElem_cons_zero]
          rw [if_pos (by rfl)]
          refine wp_store_row 27 _ _ rfl y #[.int .i64 ep', .int .i64 0, .map (some b2)] rfl rfl 27 _ YB Try.infoLs rfl (lall _ _ _) ?_
          rw [hwn]
          refine hKc.out _ _ (⟨XS.below BN, XP.below BN⟩) (fun hHeld => ?_)
          clear hKc Kc
          simp only [Act.put]
          refine wpAnyH_take (i := 12) (v := (.int .i64 n)) rfl (by kernel_rfl) (by kernel_rfl) (by kernel_rfl) (fun _ _ _ h => h) (Or.inl ⟨by rfl, ?_⟩) (by assumption) ?_
          · intro w' hSw
            go_simp
          simp only [List.getElem_toArray, List.getElem_cons_succ, List.getElem_cons_zero, Act.put, List.setIfInBounds_toArray, List.set_cons_zero, List.set_cons_succ]
          refine wpAnyH_take (i := 13) (v := (.int .i64 f)) rfl (by kernel_rfl) (by kernel_rfl) (by kernel_rfl) (fun _ _ _ h => h) (Or.inl ⟨by rfl, ?_⟩) (by assumption) ?_
          · intro w' hSw
            go_simp
          simp only [List.getElem_toArray, List.getElem_cons_succ, List.getElem_cons_zero, Act.put, List.setIfInBounds_toArray, List.set_cons_zero, List.set_cons_succ]
          refine wpAnyH_done (by kernel_rfl) ?_ _
          have NWn : MapAt Hg.val wn b2 L' := NW.keep ((oy b2 (by have := NW.lt; omega)).trans (BA.block b2 (by have := NW.lt; omega)))
          go_wp2_with fail
          go_meet
          case rel => exact ⟨y, b2, rfl, rfl, rfl, XY, NWn, BN⟩
        · have YA := blk_new wd 27 #[.int .i64 0, .int .i64 0, .map none]
          have BA := belowA wd (.cells #[.int .i64 0, .int .i64 0, .map none] 27)
          have BwG9 := below_then Bwd BA
          have zy : wA.heap.size ≤ wd.heap.size := Bwd.size
          have sy : wd.heap.size < (wd.alloc (.cells #[.int .i64 0, .int .i64 0, .map none] 27)).heap.size := by simp
          simp only [List.getElem_toArray, List.getElem_cons_succ, List.getElem_cons_zero]
          rw [if_pos (by rfl)]
          go_wp2_with fail
          generalize hwwG9 : wd.alloc (.cells #[.int .i64 0, .int .i64 0, .map none] 27) = wG9 at *
          generalize hy : wd.heap.size = y at *
          refine hKc.out _ _ (⟨XS.below BwG9, XP.below BwG9⟩) (fun hHeld => ?_)
          clear hKc Kc
          refine wpAnyH_ready (rs := [5]) (by kernel_rfl) (by simp) ?_
          refine AllReadyH.cons rfl (fun Kc hKc => ?_) AllReadyH.nil
          simp only [List.getElem_toArray, List.getElem_cons_succ, List.getElem_cons_zero]
          rw [if_pos (by rfl)]
          go_wp2_with fail
          refine (HGRN.out wG9 mo (MA.below BwG9).hL).mono ?_
          rintro e wC ⟨b2, rfl, NW, hb2, BCC⟩
          have BwC : Below wA.heap.size wA wC := below_then BwG9 BCC
          have zcc := BwG9.size
          go_wp2_with fail
          refine hKc.out _ _ (⟨XS.below BwC, XP.below BwC⟩) (fun hHeld => ?_)
          clear hKc Kc
          refine wpAnyH_take (i := 6) (v := (.tuple #[.agg #[.int .i64 ep', .int .i64 0, .map (some b2)], .int .i64 n, .int .i64 f])) rfl (by kernel_rfl) (by kernel_rfl) (by kernel_rfl) (fun _ _ _ h => h) (Or.inl ⟨by rfl, ?_⟩) (by assumption) ?_
          · intro w' hSw
            go_simp
          simp only [List.getElem_toArray, List.getElem_cons_succ, List.getElem_cons_zero, Act.put, List.setIfInBounds_toArray, List.set_cons_zero, List.set_cons_succ]
          refine wpAnyH_take (i := 7) (v := (.agg #[.int .i64 ep', .int .i64 0, .map (some b2)])) rfl (by kernel_rfl) (by kernel_rfl) (by kernel_rfl) (fun _ _ _ h => h) (Or.inl ⟨by rfl, ?_⟩) (by assumption) ?_
          · intro w' hSw
            go_simp
          simp only [List.getElem_toArray, List.getElem_cons_succ, List.getElem_cons_zero, Act.put, List.setIfInBounds_toArray, List.set_cons_zero, List.set_cons_succ]
          refine wpAnyH_take (i := 8) (v := (.int .i64 n)) rfl (by kernel_rfl) (by kernel_rfl) (by kernel_rfl) (fun _ _ _ h => h) (Or.inl ⟨by rfl, ?_⟩) (by assumption) ?_
          · intro w' hSw
            go_simp
          simp only [List.getElem_toArray, List.getElem_cons_succ, List.getElem_cons_zero, Act.put, List.setIfInBounds_toArray, List.set_cons_zero, List.set_cons_succ]
          refine wpAnyH_take (i := 9) (v := (.int .i64 f)) rfl (by kernel_rfl) (by kernel_rfl) (by kernel_rfl) (fun _ _ _ h => h) (Or.inl ⟨by rfl, ?_⟩) (by assumption) ?_
          · intro w' hSw
            go_simp
          simp only [List.getElem_toArray, List.getElem_cons_succ, List.getElem_cons_zero, Act.put, List.setIfInBounds_toArray, List.set_cons_zero, List.set_cons_succ]
          have YB := YA.below BCC
          have XY := YB.row #[.int .i64 ep', .int .i64 0, .map (some b2)]
          have oy : ∀ k, k ≠ y → (wC.setRow y #[.int .i64 ep', .int .i64 0, .map (some b2)]).heap[k]? = wC.heap[k]? := fun k hk => setRow_other _ _ _ _ hk
          have BN := belowR BwC zy #[.int .i64 ep', .int .i64 0, .map (some b2)]
          generalize hwn : wC.setRow y #[.int .i64 ep', .int .i64 0, .map (some b2)] = wn at *
          refine wpAnyH_ready (rs := [11]) (by kernel_rfl) (by simp) ?_
          refine AllReadyH.cons rfl (fun Kc hKc => ?_) AllReadyH.nil
          simp only [List.getElem_toArray, List.getElem_cons_succ, List.getElem_cons_zero]
          rw [if_pos (by rfl)]
          refine wp_store_row 27 _ _ rfl y #[.int .i64 ep', .int .i64 0, .map (some b2)] rfl rfl 27 _ YB Try.infoLs rfl (lall _ _ _) ?_
          rw [hwn]
          refine hKc.out _ _ (⟨XS.below BN, XP.below BN⟩) (fun hHeld => ?_)
          clear hKc Kc
          simp only [Act.put]
          refine wpAnyH_take (i := 12) (v := (.int .i64 n)) rfl (by kernel_rfl) (by kernel_rfl) (by kernel_rfl) (fun _ _ _ h => h) (Or.inl ⟨by rfl, ?_⟩) (by assumption) ?_
          · intro w' hSw
            go_simp
          simp only [List.getElem_toArray, List.getElem_cons_succ, List.getElem_cons_zero, Act.put, List.setIfInBounds_toArray, List.set_cons_zero, List.set_cons_succ]
          refine wpAnyH_take (i := 13) (v := (.int .i64 f)) rfl (by kernel_rfl) (by kernel_rfl) (by kernel_rfl) (fun _ _ _ h => h) (Or.inl ⟨by rfl, ?_⟩) (by assumption) ?_
          · intro w' hSw
            go_simp
          simp only [List.getElem_toArray, List.getElem_cons_succ, List.getElem_cons_zero, Act.put, List.setIfInBounds_toArray, List.set_cons_zero, List.set_cons_succ]
          refine wpAnyH_done (by kernel_rfl) ?_ _
          have NWn : MapAt Hg.val wn b2 L' := NW.keep (oy b2 (by have := hb2; omega))
          go_wp2_with fail
          go_meet
          case rel => exact ⟨y, b2, rfl, rfl, rfl, XY, NWn, BN⟩
      · have YA := blk_new wd 27 #[.int .i64 0, .int .i64 0, .map none]
        have BA := belowA wd (.cells #[.int .i64 0, .int .i64 0, .map none] 27)
        have BwG9 := below_then Bwd BA
        have zy : wA.heap.size ≤ wd.heap.size := Bwd.size
        have sy : wd.heap.size < (wd.alloc (.cells #[.int .i64 0, .int .i64 0, .map none] 27)).heap.size := by simp
        simp only [List.getElem_toArray, List.getElem_cons_succ, List.getElem_cons_zero]
        rw [if_pos (by rfl)]
        go_wp2_with fail
        generalize hwwG9 : wd.alloc (.cells #[.int .i64 0, .int .i64 0, .map none] 27) = wG9 at *
        generalize hy : wd.heap.size = y at *
        refine hKc.out _ _ (⟨XS.below BwG9, XP.below BwG9⟩) (fun hHeld => ?_)
        clear hKc Kc
        refine wpAnyH_ready (rs := [2]) (by kernel_rfl) (by simp) ?_
        refine AllReadyH.cons rfl (fun Kc hKc => ?_) AllReadyH.nil
        simp only [List.getElem_toArray, List.getElem_cons_succ, List.getElem_cons_zero]
        rw [if_pos (by rfl)]
        go_wp2_with fail
        refine (Clk.nowO ((MA.below BwG9).ck)).mono ?_
        rintro e wq ⟨rfl, hwq⟩
        obtain rfl := hwq.symm
        go_wp2_with fail
        refine hKc.out _ _ (⟨XS.below BwG9, XP.below BwG9⟩) (fun hHeld => ?_)
        clear hKc Kc
        refine wpAnyH_ready (rs := [5]) (by kernel_rfl) (by simp) ?_
        refine AllReadyH.cons rfl (fun Kc hKc => ?_) AllReadyH.nil
        simp only [List.getElem_toArray, List.getElem_cons_succ, List.getElem_cons_zero]
        rw [if_pos (by rfl)]
        go_wp2_with fail
        refine (HGRN.out wG9 mo (MA.below BwG9).hL).mono ?_
        rintro e wC ⟨b2, rfl, NW, hb2, BCC⟩
        have BwC : Below wA.heap.size wA wC := below_then BwG9 BCC
        have zcc := BwG9.size
        go_wp2_with fail
        refine hKc.out _ _ (⟨XS.below BwC, XP.below BwC⟩) (fun hHeld => ?_)
        clear hKc Kc
        refine wpAnyH_take (i := 6) (v := (.tuple #[.agg #[.int .i64 ep', .int .i64 0, .map (some b2)], .int .i64 n, .int .i64 f])) rfl (by kernel_rfl) (by kernel_rfl) (by kernel_rfl) (fun _ _ _ h => h) (Or.inl ⟨by rfl, ?_⟩) (by assumption) ?_
        · intro w' hSw
          go_simp
        simp only [List.getElem_toArray, List.getElem_cons_succ, List.getElem_cons_zero, Act.put, List.setIfInBounds_toArray, List.set_cons_zero, List.set_cons_succ]
        refine wpAnyH_take (i := 7) (v := (.agg #[.int .i64 ep', .int .i64 0, .map (some b2)])) rfl (by kernel_rfl) (by kernel_rfl) (by kernel_rfl) (fun _ _ _ h => h) (Or.inl ⟨by rfl, ?_⟩) (by assumption) ?_
        · intro w' hSw
          go_simp
        simp only [List.getElem_toArray, List.getElem_cons_succ, List.getElem_cons_zero, Act.put, List.setIfInBounds_toArray, List.set_cons_zero, List.set_cons_succ]
        refine wpAnyH_take (i := 8) (v := (.int .i64 n)) rfl (by kernel_rfl) (by kernel_rfl) (by kernel_rfl) (fun _ _ _ h => h) (Or.inl ⟨by rfl, ?_⟩) (by assumption) ?_
        · intro w' hSw
          go_simp
        simp only [List.getElem_toArray, List.getElem_cons_succ, List.getElem_cons_zero, Act.put, List.setIfInBounds_toArray, List.set_cons_zero, List.set_cons_succ]
        refine wpAnyH_take (i := 9) (v := (.int .i64 f)) rfl (by kernel_rfl) (by kernel_rfl) (by kernel_rfl) (fun _ _ _ h => h) (Or.inl ⟨by rfl, ?_⟩) (by assumption) ?_
        · intro w' hSw
          go_simp
        simp only [List.getElem_toArray, List.getElem_cons_succ, List.getElem_cons_zero, Act.put, List.setIfInBounds_toArray, List.set_cons_zero, List.set_cons_succ]
        have YB := YA.below BCC
        have XY := YB.row #[.int .i64 ep', .int .i64 0, .map (some b2)]
        have oy : ∀ k, k ≠ y → (wC.setRow y #[.int .i64 ep', .int .i64 0, .map (some b2)]).heap[k]? = wC.heap[k]? := fun k hk => setRow_other _ _ _ _ hk
        have BN := belowR BwC zy #[.int .i64 ep', .int .i64 0, .map (some b2)]
        generalize hwn : wC.setRow y #[.int .i64 ep', .int .i64 0, .map (some b2)] = wn at *
        refine wpAnyH_ready (rs := [11]) (by kernel_rfl) (by simp) ?_
        refine AllReadyH.cons rfl (fun Kc hKc => ?_) AllReadyH.nil
        simp only [List.getElem_toArray, List.getElem_cons_succ, List.getElem_cons_zero]
        rw [if_pos (by rfl)]
        refine wp_store_row 27 _ _ rfl y #[.int .i64 ep', .int .i64 0, .map (some b2)] rfl rfl 27 _ YB Try.infoLs rfl (lall _ _ _) ?_
        rw [hwn]
        refine hKc.out _ _ (⟨XS.below BN, XP.below BN⟩) (fun hHeld => ?_)
        clear hKc Kc
        simp only [Act.put]
        refine wpAnyH_take (i := 12) (v := (.int .i64 n)) rfl (by kernel_rfl) (by kernel_rfl) (by kernel_rfl) (fun _ _ _ h => h) (Or.inl ⟨by rfl, ?_⟩) (by assumption) ?_
        · intro w' hSw
          go_simp
        simp only [List.getElem_toArray, List.getElem_cons_succ, List.getElem_cons_zero, Act.put, List.setIfInBounds_toArray, List.set_cons_zero, List.set_cons_succ]
        refine wpAnyH_take (i := 13) (v := (.int .i64 f)) rfl (by kernel_rfl) (by kernel_rfl) (by kernel_rfl) (fun _ _ _ h => h) (Or.inl ⟨by rfl, ?_⟩) (by assumption) ?_
        · intro w' hSw
          go_simp
        simp only [List.getElem_toArray, List.getElem_cons_succ, List.getElem_cons_zero, Act.put, List.setIfInBounds_toArray, List.set_cons_zero, List.set_cons_succ]
        refine wpAnyH_done (by kernel_rfl) ?_ _
        have NWn : MapAt Hg.val wn b2 L' := NW.keep (oy b2 (by have := hb2; omega))
        go_wp2_with fail
        go_meet
        case rel => exact ⟨y, b2, rfl, rfl, rfl, XY, NWn, BN⟩
  case rest =>
  obtain ⟨y, b2, rfl, rfl, rfl, XY, NY, BY⟩ := hcut
  obtain ⟨wE, hwE⟩ : ∃ x, x = wc := ⟨_, rfl⟩
  subst hwE
  have ME := MA.below BY
  have BWE := below_then BWA BY
  clear MA BWA XS XP BY HBEL HGRN
  have hgi : phG ak gr i = 2 ↔ gr ≤ i := by
    unfold phG
    constructor
    · intro h; exact Classical.byContradiction (fun h2 => by rw [if_neg h2] at h; split at h <;> omega)
    · intro h; rw [if_pos h]
  have hgl2 : phG ak gr i ≤ 2 := by unfold phG; split <;> (try split) <;> omega
  have TAIL : gr ≤ i ∧ f = 15 ∨ gr ≤ i ∧ f = 0 ∧ may = false ∧ first < n ∧ (∃ u, ∀ (wv : World) (b : Nat), MapAt Hg.val wv b L' → Calls Try.prog 12 #[.agg #[.int .i64 ep', .int .i64 0, .map (some b)], .int .i64 (cnt H 0), .int .i64 9] wv fun e w' => e = .returned (.tuple #[.agg #[.int .i64 2, .int .i64 n, .int .i64 u], .bool true]) ∧ Below wv.heap.size wv w') ∨ i < gr ∧ may = false := by
    rcases HEND.out with ⟨g1, g2⟩ | ⟨g1, g2⟩ | ⟨g1, g2, g3, g4, g5⟩
    · exact Or.inr (Or.inr ⟨by omega, g2⟩)
    · exact Or.inl ⟨hgi.1 (by omega), g2⟩
    · exact Or.inr (Or.inl ⟨hgi.1 (by omega), g2, g3, g4, g5⟩)
  clear HEND hgi hgl2
  have HTL : Hid _ := TAIL
  clear TAIL
  go_upto_region 33 with fail
  go_cut [195] (fun s195 wc => s195 = .bool false ∧ wc = wE)
  case first =>
    as_aux_lemma =>
    rcases HTL.out with ⟨g1, rfl⟩ | ⟨g1, rfl, rfl, g4, _⟩ | ⟨g1, rfl⟩
    · have g1' : (gr : Int) ≤ (i : Int) := by omega
      have g2' : ¬ (i : Int) < (gr : Int) := by omega
      cases may with
      | true =>
        go_wp2_with fail
        go_meet
        case rel => exact ⟨rfl, rfl⟩
      | false =>
        go_wp2_with fail
        go_meet
        case rel => exact ⟨rfl, rfl⟩
    · have g1' : (gr : Int) ≤ (i : Int) := by omega
      have g2' : ¬ (i : Int) < (gr : Int) := by omega
      have g3' : ¬ n ≤ first := by omega
      go_wp2_with fail
      go_meet
      case rel => exact ⟨rfl, rfl⟩
    · have g1' : ¬ (gr : Int) ≤ (i : Int) := by omega
      have g2' : (i : Int) < (gr : Int) := by omega
      go_wp2_with fail
      go_meet
      case rel => exact ⟨rfl, rfl⟩
  case rest =>
  obtain ⟨rfl, hcut2⟩ := hcut
  obtain rfl := hcut2.symm
  go_upto_region 35 with fail
  go_cut [202] (fun s202 wc => (s202 = .bool false ∨ s202 = .bool true ∧ gr ≤ i ∧ f = 0) ∧ wc = wE)
  case first =>
    as_aux_lemma =>
    rcases HTL.out with ⟨g1, rfl⟩ | ⟨g1, rfl, rfl, g4, _⟩ | ⟨g1, rfl⟩
    · have g1' : (gr : Int) ≤ (i : Int) := by omega
      go_wp2_with fail
      go_meet
      case rel => exact ⟨Or.inl rfl, rfl⟩
    · have g1' : (gr : Int) ≤ (i : Int) := by omega
      go_wp2_with fail
      go_meet
      case rel => exact ⟨Or.inr ⟨rfl, g1, by trivial⟩, rfl⟩
    · have g1' : ¬ (gr : Int) ≤ (i : Int) := by omega
      go_wp2_with fail
      go_meet
      case rel => exact ⟨Or.inl rfl, rfl⟩
  case rest =>
  obtain ⟨hs202, hcut2⟩ := hcut
  obtain rfl := hcut2.symm
  rcases hs202 with rfl | ⟨rfl, g1, rfl⟩
  case inr =>
    obtain ⟨u, WHO⟩ : ∃ u, ∀ (wv : World) (b : Nat), MapAt Hg.val wv b L' → Calls Try.prog 12 #[.agg #[.int .i64 ep', .int .i64 0, .map (some b)], .int .i64 (cnt H 0), .int .i64 9] wv fun e w' => e = .returned (.tuple #[.agg #[.int .i64 2, .int .i64 n, .int .i64 u], .bool true]) ∧ Below wv.heap.size wv w' := by
      rcases HTL.out with ⟨_, h⟩ | ⟨_, _, _, _, h⟩ | ⟨h, _⟩
      · exact absurd h (by omega)
      · exact h
      · omega
    have HWHO : Hid _ := WHO
    clear WHO
    go_upto_region 36 with fail
    as_aux_lemma =>
      have XYo := XY
      refine wp_region_held_drew (S := fun w' => Blk w' y 27 #[.int .i64 ep', .int .i64 0, .map (some b2)]) (by kernel_rfl) (XY) (fun hHeld => ?_)
      have Bwd : Below wE.heap.size wE wE.drew := (Below.refl wE.heap.size wE).drew
      generalize hwd : wE.drew = wd at *
      refine wpAnyH_take (i := 0) (v := (.agg #[.int .i64 ep', .int .i64 0, .map (some b2)])) rfl (by kernel_rfl) (by kernel_rfl) (by kernel_rfl) (fun _ _ _ h => h) (Or.inl ⟨by rfl, ?_⟩) (by assumption) ?_
      · intro w' hSw
        have y0 : w'.cell? ⟨y, 0, none⟩ = some (.int .i64 ep') := hSw.cell 0 rfl
        have y1 : w'.cell? ⟨y, 1, none⟩ = some (.int .i64 0) := hSw.cell 1 rfl
        have y2 : w'.cell? ⟨y, 2, none⟩ = some (.map (some b2)) := hSw.cell 2 rfl
        go_simp
      simp only [List.getElem_toArray, List.getElem_cons_zero, Act.put, List.setIfInBounds_toArray, List.set_cons_zero, List.set_cons_succ]
      refine wpAnyH_take (i := 1) (v := (.pointer (some ⟨bc, 0, none⟩))) rfl (by kernel_rfl) (by kernel_rfl) (by kernel_rfl) (fun _ _ _ h => h) (Or.inl ⟨by rfl, ?_⟩) (by assumption) ?_
      · intro w' hSw
        go_simp
      simp only [List.getElem_toArray, List.getElem_cons_succ, List.getElem_cons_zero, Act.put, List.setIfInBounds_toArray, List.set_cons_zero, List.set_cons_succ]
      refine wpAnyH_ready (rs := [2, 7]) (by kernel_rfl) (by simp) ?_
      refine AllReadyH.cons rfl (fun Kc hKc => ?_) (AllReadyH.cons rfl (fun Kc hKc => ?_) AllReadyH.nil)
      · simp only [List.getElem_toArray, List.getElem_cons_succ, List.getElem_cons_zero]
        rw [if_pos (by rfl)]
        go_wp2_with fail
        refine (Clk.nowO ((ME.below Bwd).ck)).mono ?_
        rintro e wq ⟨rfl, hwq⟩
        obtain rfl := hwq.symm
        go_wp2_with fail
        refine hKc.out _ _ (XYo.below Bwd) (fun hHeld => ?_)
        clear hKc Kc
        refine wpAnyH_ready (rs := [3, 7]) (by kernel_rfl) (by simp) ?_
        refine AllReadyH.cons rfl (fun Kc hKc => ?_) (AllReadyH.cons rfl (fun Kc hKc => ?_) AllReadyH.nil)
        · simp only [List.getElem_toArray, List.getElem_cons_succ, List.getElem_cons_zero]
          rw [if_pos (by rfl)]
          go_wp2_with fail
          refine (HWHO.out wd b2 (NY.below Bwd)).mono ?_
          rintro e wC ⟨rfl, BCC⟩
          have BwC : Below wE.heap.size wE wC := below_then Bwd BCC
          have zcc := Bwd.size
          go_wp2_with fail
          refine hKc.out _ _ (XYo.below BwC) (fun hHeld => ?_)
          clear hKc Kc
          refine wpAnyH_take (i := 4) (v := (.tuple #[.agg #[.int .i64 2, .int .i64 n, .int .i64 u], .bool true])) rfl (by kernel_rfl) (by kernel_rfl) (by kernel_rfl) (fun _ _ _ h => h) (Or.inl ⟨by rfl, ?_⟩) (by assumption) ?_
          · intro w' hSw
            go_simp
          simp only [List.getElem_toArray, List.getElem_cons_succ, List.getElem_cons_zero, Act.put, List.setIfInBounds_toArray, List.set_cons_zero, List.set_cons_succ]
          refine wpAnyH_take (i := 5) (v := (.agg #[.int .i64 2, .int .i64 n, .int .i64 u])) rfl (by kernel_rfl) (by kernel_rfl) (by kernel_rfl) (fun _ _ _ h => h) (Or.inl ⟨by rfl, ?_⟩) (by assumption) ?_
          · intro w' hSw
            go_simp
          simp only [List.getElem_toArray, List.getElem_cons_succ, List.getElem_cons_zero, Act.put, List.setIfInBounds_toArray, List.set_cons_zero, List.set_cons_succ]
          refine wpAnyH_take (i := 6) (v := (.bool true)) rfl (by kernel_rfl) (by kernel_rfl) (by kernel_rfl) (fun _ _ _ h => h) (Or.inl ⟨by rfl, ?_⟩) (by assumption) ?_
          · intro w' hSw
            go_simp
          simp only [List.getElem_toArray, List.getElem_cons_succ, List.getElem_cons_zero, Act.put, List.setIfInBounds_toArray, List.set_cons_zero, List.set_cons_succ]
          have YA := blk_new wC 48 #[.int .i64 0, .int .i64 0, .int .i64 0]
          have BA := belowA wC (.cells #[.int .i64 0, .int .i64 0, .int .i64 0] 48)
          have BwD := below_then BwC BA
          have zy : wE.heap.size ≤ wC.heap.size := BwC.size
          have sy : wC.heap.size < (wC.alloc (.cells #[.int .i64 0, .int .i64 0, .int .i64 0] 48)).heap.size := by simp
          refine wpAnyH_ready (rs := [7]) (by kernel_rfl) (by simp) ?_
          refine AllReadyH.cons rfl (fun Kc hKc => ?_) AllReadyH.nil
          simp only [List.getElem_toArray, List.getElem_cons_succ, List.getElem_cons_zero]
          rw [if_pos (by rfl)]
          go_wp2_with fail
          generalize hwwD : wC.alloc (.cells #[.int .i64 0, .int .i64 0, .int .i64 0] 48) = wD at *
          generalize hy : wC.heap.size = y1 at *
          refine hKc.out _ _ (XYo.below BwD) (fun hHeld => ?_)
          clear hKc Kc
          have YB := YA
          have XY := YB.row #[.int .i64 2, .int .i64 n, .int .i64 u]
          have oy : ∀ k, k ≠ y1 → (wD.setRow y1 #[.int .i64 2, .int .i64 n, .int .i64 u]).heap[k]? = wD.heap[k]? := fun k hk => setRow_other _ _ _ _ hk
          have BN := belowR BwD zy #[.int .i64 2, .int .i64 n, .int .i64 u]
          generalize hwn : wD.setRow y1 #[.int .i64 2, .int .i64 n, .int .i64 u] = wn at *
          refine wpAnyH_ready (rs := [8]) (by kernel_rfl) (by simp) ?_
          refine AllReadyH.cons rfl (fun Kc hKc => ?_) AllReadyH.nil
          simp only [List.getElem_toArray, List.getElem_cons_succ, List.getElem_cons_zero]
          rw [if_pos (by rfl)]
          refine wp_store_row 48 _ _ rfl y1 #[.int .i64 2, .int .i64 n, .int .i64 u] rfl rfl 48 _ YB Try.infoHg rfl (hall3 _ _ _) ?_
          rw [hwn]
          refine hKc.out _ _ (XYo.below BN) (fun hHeld => ?_)
          clear hKc Kc
          simp only [Act.put]
          refine wpAnyH_take (i := 9) (v := (.bool true)) rfl (by kernel_rfl) (by kernel_rfl) (by kernel_rfl) (fun _ _ _ h => h) (Or.inl ⟨by rfl, ?_⟩) (by assumption) ?_
          · intro w' hSw
            go_simp
          simp only [List.getElem_toArray, List.getElem_cons_succ, List.getElem_cons_zero, Act.put, List.setIfInBounds_toArray, List.set_cons_zero, List.set_cons_succ]
          refine wpAnyH_done (by kernel_rfl) ?_ _
          have k0 : wn.cell? ⟨y1, 0, none⟩ = some (.int .i64 2) := XY.cell 0 rfl
          have k1 : wn.cell? ⟨y1, 1, none⟩ = some (.int .i64 n) := XY.cell 1 rfl
          go_wp2_with fail
          go_ret
          exact ⟨rfl, below_then BWE BN⟩
        · have YA := blk_new wd 48 #[.int .i64 0, .int .i64 0, .int .i64 0]
          have BA := belowA wd (.cells #[.int .i64 0, .int .i64 0, .int .i64 0] 48)
          have BwG9 := below_then Bwd BA
          have zy : wE.heap.size ≤ wd.heap.size := Bwd.size
          have sy : wd.heap.size < (wd.alloc (.cells #[.int .i64 0, .int .i64 0, .int .i64 0] 48)).heap.size := by simp
          simp only [List.getElem_toArray, List.getElem_cons_succ, List.getElem_cons_zero]
          rw [if_pos (by rfl)]
          go_wp2_with fail
          generalize hwwG9 : wd.alloc (.cells #[.int .i64 0, .int .i64 0, .int .i64 0] 48) = wG9 at *
          generalize hy : wd.heap.size = y1 at *
          refine hKc.out _ _ (XYo.below BwG9) (fun hHeld => ?_)
          clear hKc Kc
          refine wpAnyH_ready (rs := [3]) (by kernel_rfl) (by simp) ?_
          refine AllReadyH.cons rfl (fun Kc hKc => ?_) AllReadyH.nil
          simp only [List.getElem_toArray, List.getElem_cons_succ, List.getElem_cons_zero]
          rw [if_pos (by rfl)]
          go_wp2_with fail
          refine (HWHO.out wG9 b2 (NY.below BwG9)).mono ?_
          rintro e wC ⟨rfl, BCC⟩
          have BwC : Below wE.heap.size wE wC := below_then BwG9 BCC
          have zcc := BwG9.size
          go_wp2_with fail
          refine hKc.out _ _ (XYo.below BwC) (fun hHeld => ?_)
          clear hKc Kc
          refine wpAnyH_take (i := 4) (v := (.tuple #[.agg #[.int .i64 2, .int .i64 n, .int .i64 u], .bool true])) rfl (by kernel_rfl) (by kernel_rfl) (by kernel_rfl) (fun _ _ _ h => h) (Or.inl ⟨by rfl, ?_⟩) (by assumption) ?_
          · intro w' hSw
            go_simp
          simp only [List.getElem_toArray, List.getElem_cons_succ, List.getElem_cons_zero, Act.put, List.setIfInBounds_toArray, List.set_cons_zero, List.set_cons_succ]
          refine wpAnyH_take (i := 5) (v := (.agg #[.int .i64 2, .int .i64 n, .int .i64 u])) rfl (by kernel_rfl) (by kernel_rfl) (by kernel_rfl) (fun _ _ _ h => h) (Or.inl ⟨by rfl, ?_⟩) (by assumption) ?_
          · intro w' hSw
            go_simp
          simp only [List.getElem_toArray, List.getElem_cons_succ, List.getElem_cons_zero, Act.put, List.setIfInBounds_toArray, List.set_cons_zero, List.set_cons_succ]
          refine wpAnyH_take (i := 6) (v := (.bool true)) rfl (by kernel_rfl) (by kernel_rfl) (by kernel_rfl) (fun _ _ _ h => h) (Or.inl ⟨by rfl, ?_⟩) (by assumption) ?_
          · intro w' hSw
            go_simp
          simp only [List.getElem_toArray, List.getElem_cons_succ, List.getElem_cons_zero, Act.put, List.setIfInBounds_toArray, List.set_cons_zero, List.set_cons_succ]
          have YB := YA.below BCC
          have XY := YB.row #[.int .i64 2, .int .i64 n, .int .i64 u]
          have oy : ∀ k, k ≠ y1 → (wC.setRow y1 #[.int .i64 2, .int .i64 n, .int .i64 u]).heap[k]? = wC.heap[k]? := fun k hk => setRow_other _ _ _ _ hk
          have BN := belowR BwC zy #[.int .i64 2, .int .i64 n, .int .i64 u]
          generalize hwn : wC.setRow y1 #[.int .i64 2, .int .i64 n, .int .i64 u] = wn at *
          refine wpAnyH_ready (rs := [8]) (by kernel_rfl) (by simp) ?_
          refine AllReadyH.cons rfl (fun Kc hKc => ?_) AllReadyH.nil
          simp only [List.getElem_toArray, List.getElem_cons_succ, List.getElem_cons_zero]
          rw [if_pos (by rfl)]
          refine wp_store_row 48 _ _ rfl y1 #[.int .i64 2, .int .i64 n, .int .i64 u] rfl rfl 48 _ YB Try.infoHg rfl (hall3 _ _ _) ?_
          rw [hwn]
          refine hKc.out _ _ (XYo.below BN) (fun hHeld => ?_)
          clear hKc Kc
          simp only [Act.put]
          refine wpAnyH_take (i := 9) (v := (.bool true)) rfl (by kernel_rfl) (by kernel_rfl) (by kernel_rfl) (fun _ _ _ h => h) (Or.inl ⟨by rfl, ?_⟩) (by assumption) ?_
          · intro w' hSw
            go_simp
          simp only [List.getElem_toArray, List.getElem_cons_succ, List.getElem_cons_zero, Act.put, List.setIfInBounds_toArray, List.set_cons_zero, List.set_cons_succ]
          refine wpAnyH_done (by kernel_rfl) ?_ _
          have k0 : wn.cell? ⟨y1, 0, none⟩ = some (.int .i64 2) := XY.cell 0 rfl
          have k1 : wn.cell? ⟨y1, 1, none⟩ = some (.int .i64 n) := XY.cell 1 rfl
          go_wp2_with fail
          go_ret
          exact ⟨rfl, below_then BWE BN⟩
      · have YA := blk_new wd 48 #[.int .i64 0, .int .i64 0, .int .i64 0]
        have BA := belowA wd (.cells #[.int .i64 0, .int .i64 0, .int .i64 0] 48)
        have BwG9 := below_then Bwd BA
        have zy : wE.heap.size ≤ wd.heap.size := Bwd.size
        have sy : wd.heap.size < (wd.alloc (.cells #[.int .i64 0, .int .i64 0, .int .i64 0] 48)).heap.size := by simp
        simp only [List.getElem_toArray, List.getElem_cons_succ, List.getElem_cons_zero]
        rw [if_pos (by rfl)]
        go_wp2_with fail
        generalize hwwG9 : wd.alloc (.cells #[.int .i64 0, .int .i64 0, .int .i64 0] 48) = wG9 at *
        generalize hy : wd.heap.size = y1 at *
        refine hKc.out _ _ (XYo.below BwG9) (fun hHeld => ?_)
        clear hKc Kc
        refine wpAnyH_ready (rs := [2]) (by kernel_rfl) (by simp) ?_
        refine AllReadyH.cons rfl (fun Kc hKc => ?_) AllReadyH.nil
        simp only [List.getElem_toArray, List.getElem_cons_succ, List.getElem_cons_zero]
        rw [if_pos (by rfl)]
        go_wp2_with fail
        refine (Clk.nowO ((ME.below BwG9).ck)).mono ?_
        rintro e wq ⟨rfl, hwq⟩
        obtain rfl := hwq.symm
        go_wp2_with fail
        refine hKc.out _ _ (XYo.below BwG9) (fun hHeld => ?_)
        clear hKc Kc
        refine wpAnyH_ready (rs := [3]) (by kernel_rfl) (by simp) ?_
        refine AllReadyH.cons rfl (fun Kc hKc => ?_) AllReadyH.nil
        simp only [List.getElem_toArray, List.getElem_cons_succ, List.getElem_cons_zero]
        rw [if_pos (by rfl)]
        go_wp2_with fail
        refine (HWHO.out wG9 b2 (NY.below BwG9)).mono ?_
        rintro e wC ⟨rfl, BCC⟩
        have BwC : Below wE.heap.size wE wC := below_then BwG9 BCC
        have zcc := BwG9.size
        go_wp2_with fail
        refine hKc.out _ _ (XYo.below BwC) (fun hHeld => ?_)
        clear hKc Kc
        refine wpAnyH_take (i := 4) (v := (.tuple #[.agg #[.int .i64 2, .int .i64 n, .int .i64 u], .bool true])) rfl (by kernel_rfl) (by kernel_rfl) (by kernel_rfl) (fun _ _ _ h => h) (Or.inl ⟨by rfl, ?_⟩) (by assumption) ?_
        · intro w' hSw
          go_simp
        simp only [List.getElem_toArray, List.getElem_cons_succ, List.getElem_cons_zero, Act.put, List.setIfInBounds_toArray, List.set_cons_zero, List.set_cons_succ]
        refine wpAnyH_take (i := 5) (v := (.agg #[.int .i64 2, .int .i64 n, .int .i64 u])) rfl (by kernel_rfl) (by kernel_rfl) (by kernel_rfl) (fun _ _ _ h => h) (Or.inl ⟨by rfl, ?_⟩) (by assumption) ?_
        · intro w' hSw
          go_simp
        simp only [List.getElem_toArray, List.getElem_cons_succ, List.getElem_cons_zero, Act.put, List.setIfInBounds_toArray, List.set_cons_zero, List.set_cons_succ]
        refine wpAnyH_take (i := 6) (v := (.bool true)) rfl (by kernel_rfl) (by kernel_rfl) (by kernel_rfl) (fun _ _ _ h => h) (Or.inl ⟨by rfl, ?_⟩) (by assumption) ?_
        · intro w' hSw
          go_simp
        simp only [List.getElem_toArray, List.getElem_cons_succ, List.getElem_cons_zero, Act.put, List.setIfInBounds_toArray, List.set_cons_zero, List.set_cons_succ]
        have YB := YA.below BCC
        have XY := YB.row #[.int .i64 2, .int .i64 n, .int .i64 u]
        have oy : ∀ k, k ≠ y1 → (wC.setRow y1 #[.int .i64 2, .int .i64 n, .int .i64 u]).heap[k]? = wC.heap[k]? := fun k hk => setRow_other _ _ _ _ hk
        have BN := belowR BwC zy #[.int .i64 2, .int .i64 n, .int .i64 u]
        generalize hwn : wC.setRow y1 #[.int .i64 2, .int .i64 n, .int .i64 u] = wn at *
        refine wpAnyH_ready (rs := [8]) (by kernel_rfl) (by simp) ?_
        refine AllReadyH.cons rfl (fun Kc hKc => ?_) AllReadyH.nil
        simp only [List.getElem_toArray, List.getElem_cons_succ, List.getElem_cons_zero]
        rw [if_pos (by rfl)]
        refine wp_store_row 48 _ _ rfl y1 #[.int .i64 2, .int .i64 n, .int .i64 u] rfl rfl 48 _ YB Try.infoHg rfl (hall3 _ _ _) ?_
        rw [hwn]
        refine hKc.out _ _ (XYo.below BN) (fun hHeld => ?_)
        clear hKc Kc
        simp only [Act.put]
        refine wpAnyH_take (i := 9) (v := (.bool true)) rfl (by kernel_rfl) (by kernel_rfl) (by kernel_rfl) (fun _ _ _ h => h) (Or.inl ⟨by rfl, ?_⟩) (by assumption) ?_
        · intro w' hSw
          go_simp
        simp only [List.getElem_toArray, List.getElem_cons_succ, List.getElem_cons_zero, Act.put, List.setIfInBounds_toArray, List.set_cons_zero, List.set_cons_succ]
        refine wpAnyH_done (by kernel_rfl) ?_ _
        have k0 : wn.cell? ⟨y1, 0, none⟩ = some (.int .i64 2) := XY.cell 0 rfl
        have k1 : wn.cell? ⟨y1, 1, none⟩ = some (.int .i64 n) := XY.cell 1 rfl
        go_wp2_with fail
        go_ret
        exact ⟨rfl, below_then BWE BN⟩
  clear HTL
  have PHN : Hid (∀ t : Nat, Ph te ma (t :: H) W Hm L cn ep num first (phI ak gr (i + 1))) := fun t => by rw [phI_next]; exact HPH.out.tick t
  have PHS : Hid (Ph te ma H W Hm L cn ep num first (phI ak gr (i + 1))) := by rw [phI_next]; exact HPH.out
  clear HPH
  as_aux_lemma =>
  by_cases d2 : i < Lt
  · have d2' : (i : Int) < (Lt : Int) := by omega
    have kt := TKS.out wE ME.rest i d2
    by_cases d3 : 0 ≤ el ZT i ∧ el ZT i < 3
    · obtain ⟨t, ht⟩ : ∃ t : Nat, el ZT i = (t : Int) := ⟨(el ZT i).toNat, by omega⟩
      rw [ht] at kt d3
      have TK := ctick_ok bc gc 3 3 t H wE ME.ck (by omega) (by omega) (by omega)
      clear ht
      go_wp2_with (go_at_call 13; refine TK.mono ?_; rintro e wT ⟨rfl, CT, BT⟩)
      go_roundg (Lt + 1 - (i + 1))
      case measure => omega
      case rel => exact ⟨i + 1, num, first, t :: H, W, Hm, L, cn, ep, mw, mh, mo, rfl, by omega, rfl, rfl, by go_num, by rw [List.length_cons]; omega, PHN.out t, ME.tick BT CT, BWE.trans (BT.below BWE.size HBS.out.2.2)⟩
    · have TK := ctick_none bc gc 3 3 H (el ZT i) wE ME.ck (by omega)
      generalize el ZT i = zt at *
      go_wp2_with (go_at_call 13; refine TK.mono ?_; rintro e wT ⟨rfl, hwT⟩; obtain rfl := hwT.symm)
      go_roundg (Lt + 1 - (i + 1))
      case measure => omega
      case rel => exact ⟨i + 1, num, first, H, W, Hm, L, cn, ep, mw, mh, mo, rfl, by omega, rfl, rfl, by go_num, by omega, PHS.out, ME, BWE⟩
  · have d2' : ¬ (i : Int) < (Lt : Int) := by omega
    go_wp2_with fail
    go_roundg (Lt + 1 - (i + 1))
    case measure => omega
    case rel => exact ⟨i + 1, num, first, H, W, Hm, L, cn, ep, mw, mh, mo, rfl, by omega, rfl, rfl, by go_num, by omega, PHS.out, ME, BWE⟩
end Go.Proofs.Ythboinknjhgpfaa
