/- The given statement on BlockBytes: at every input the law returns true and its arguments read as before; no condition. -/
import Derived.Test.YtpplnjmjldhlbaaPk10
import Derived.Test.YtpplnjmjldhlbaaPk6
import Derived.Test.YtpplnjmjldhlbaaRows
import Derived.Test.YtpplnjmjldhlbaaPk3
import Derived.ProofKit
import Derived.Carry
import Derived.OpenShut
/- Pages are written as bytes in one way: the walk. Laid by tools/genbbytes.py. -/
namespace Go.Proofs.Ytpplnjmjldhlbaa
open Go.ChangeShapes Go.WideShapes Go.ChangeAt Go.RowKit Go.Deep
theorem yields_rowJ {ops : Array Oper} {S : World → Prop} {op : Oper} {a : Act} (hw : Region.wanted op (yielded ops a.tmps) = true) (ty : TypeId) (x : Operand) (ho : op.op = .load ty x)
    (g : Nat) (hx : a.eval x = .pointer (some ⟨g, 0, none⟩)) (T : TypeId) (cs : Array Value) (d : TypeDesc) (hS : ∀ w, S w → Blk w g T cs) (hu : Try.prog.underlying ty = some d) (hd : d.isRow = true) (hi : (Try.prog.info? ty).map (·.size) = some cs.size) :
    YieldsIf Try.prog ops S op (.agg cs) a := by
  have := yieldsIf_load_mid (P := Try.prog) (S := S) hw ty x ho g 0 hx cs.toList d (fun w h j v hv => by rw [Nat.zero_add]; exact (hS w h).cell j (by simpa using hv)) hu hd (by simpa using hi)
  simpa using this
theorem rread_any (Vo D Hd H L : Int) (l : List UInt8) (w : World) (hl : l.length ≤ 1000000) (hD : -9223372036854775808 ≤ D ∧ D ≤ 9223372036854775807) (hL : -9223372036854775808 ≤ L ∧ L ≤ 9223372036854775807) :
   Calls Try.prog 24 #[.agg (cfgC Vo D Hd H L), .string (txt l)] w fun e w' => ∃ p : PgV, e = .returned (.tuple #[.agg p.cells, .int .i64 (rdS Vo D L l).1]) ∧ PgAt w' p (rdS Vo D L l).2 ∧ Below w.heap.size w w' := by
  by_cases h2 : l.length < 2
  · refine (rread_short Vo D Hd H L l w h2).mono ?_
    rintro e w' ⟨rfl, B⟩
    have e0 : rdS Vo D L l = (11, noPg) := by
      match l, h2 with
      | [], _ => rfl
      | [_], _ => rfl
    rw [e0]
    exact ⟨⟨⟨none, 0, 0⟩, 0, ⟨none, 0, 0⟩, ⟨none, 0, 0⟩⟩, rfl, noPg_at _, B⟩
  · match l, h2 with
    | [], h2 => exact absurd (by show 0 < 2; omega) h2
    | [_], h2 => exact absurd (by show 1 < 2; omega) h2
    | a :: b :: r, _ => exact rread_two Vo D Hd H L a b r w (by have : (a :: b :: r).length = r.length + 2 := rfl; omega) hD hL
/-- What is read is right, or nothing. -/
theorem rd_either (Vo D L : Int) (l : List UInt8) : ((rdS Vo D L l).1 = 0 ∧ rdS Vo D L l = (0, (rdS Vo D L l).2)) ∨ ((rdS Vo D L l).1 ≠ 0 ∧ (rdS Vo D L l).2 = noPg) := by
  match l with
  | [] => exact Or.inr ⟨(by show ¬ (11 : Int) = 0; omega), rfl⟩
  | [_] => exact Or.inr ⟨(by show ¬ (11 : Int) = 0; omega), rfl⟩
  | a :: b :: r =>
    rw [show rdS Vo D L (a :: b :: r) = rd2 Vo D L a.toNat b.toNat r from rfl]
    unfold rd2
    split
    · exact Or.inr ⟨(by show ¬ (11 : Int) = 0; omega), rfl⟩
    · split
      · exact Or.inr ⟨(by show ¬ (6 : Int) = 0; omega), rfl⟩
      · split
        · exact Or.inl ⟨rfl, rfl⟩
        · rename_i h; exact Or.inr ⟨h, rfl⟩
theorem rd_cut (Vo D L : Int) (l : List UInt8) : cutPg (rdS Vo D L l).2 = (rdS Vo D L l).2 := by
  rcases rd_either Vo D L l with ⟨_, h⟩ | ⟨_, h⟩
  · obtain ⟨_, h2, h3, h4⟩ := read_again h
    exact page_whole h2 h3 h4
  · rw [h]; rfl
theorem rd_F (Vo D L : Int) (l : List UInt8) : -9223372036854775808 ≤ (rdS Vo D L l).2.F ∧ (rdS Vo D L l).2.F ≤ 9223372036854775807 := by
  rcases rd_either Vo D L l with ⟨_, h⟩ | ⟨_, h⟩
  · obtain ⟨_, h2, _, _⟩ := read_again h
    obtain ⟨h1, _⟩ := ck_zero h2
    have := plB_true h1
    omega
  · rw [h]; exact ⟨by show -9223372036854775808 ≤ (0 : Int); omega, by show (0 : Int) ≤ 9223372036854775807; omega⟩
set_option maxRecDepth 100000 in
set_option maxHeartbeats 32000000 in
theorem blockBytes_walk (C : Cfg) (vv : PgV) (X : Pg) (s : ByteArray) (w : World) (hC : C.Ok) (hv' : PgR w vv X ∧ (-9223372036854775808 ≤ X.F ∧ X.F ≤ 9223372036854775807)) :
    Calls Try.prog 5 #[C.val, .agg vv.cells, .string s] w fun e w' => e = .returned (.bool true) ∧ Below w.heap.size w w' := by
  obtain ⟨hv, hF⟩ := hv'
  obtain ⟨XC, hXC⟩ : ∃ XC, XC = cutPg X := ⟨_, rfl⟩
  have HXT : Hid (cutPg XC = XC) := by show _ = _; rw [hXC]; exact cutPg_twice X
  have hFC : -9223372036854775808 ≤ XC.F ∧ XC.F ≤ 9223372036854775807 := by rw [hXC]; exact hF
  have hTC : XC.T.length ≤ 140 := by rw [hXC]; show (X.T.take 140).length ≤ 140; rw [List.length_take]; omega
  have hKs : (cubeB XC.K).length ≤ 16000 := by rw [hXC]; exact cube_size (cut_dims X.K 20).1 (cut_dims X.K 20).2
  have hVs : (cubeB XC.V).length ≤ 16000 := by rw [hXC]; exact cube_size (cut_dims X.V 20).1 (cut_dims X.V 20).2
  have hpl : (pageB XC).length ≤ 40000 := by unfold pageB; simp only [List.length_append, List.length_map, List.length_cons, List.length_nil]; omega
  have TA := fun (wv : World) (hb : Below w.heap.size w wv) => told11_any vv X wv (hv.below hb)
  rw [← hXC] at TA
  have OF := fun (p : PgV) (wv : World) (hp : PgAt wv p XC) => of11_any p XC wv hp.raw
  have TO := fun (p : PgV) (wv : World) (hp : PgAt wv p XC) => told11_any p XC wv hp.raw
  rw [HXT.out] at OF TO
  have BO := fun (p : PgV) (wv : World) (hp : PgAt wv p XC) h0 => bytes_ok C.V C.D C.Hd C.H C.L p XC wv hp hFC h0 (by omega)
  have BB := fun (p : PgV) (wv : World) (hp : PgAt wv p XC) h0 => bytes_bad C.V C.D C.Hd C.H C.L p XC wv hp hFC h0
  have RK := fun (p : PgV) (wv : World) (hp : PgAt wv p XC) => rcheck11_any C.V C.D C.Hd C.H C.L p XC wv hp hFC
  have RY := fun (p : PgV) (wv : World) (hp : PgAt wv p XC) => rbytes11_any p XC wv hp hFC (by omega) (by omega)
  have PR := fun (l : List UInt8) (wv : World) (hl : l.length ≤ 1000000) => read_any C.V C.D C.Hd C.H C.L l wv (by omega) hC.D hC.L
  have RR := fun (l : List UInt8) (wv : World) (hl : l.length ≤ 1000000) => rread_any C.V C.D C.Hd C.H C.L l wv hl hC.D hC.L
  unfold Cfg.val
  have hu : ∀ C : Cfg, cfgC C.V C.D C.Hd C.H C.L = #[.int .i64 C.V, .int .i64 C.D, .int .i64 C.Hd, .int .i64 C.H, .int .i64 C.L] := fun _ => rfl
  simp only [hu] at BO BB RK PR RR ⊢
  clear hu hC
  obtain ⟨TS, hTS⟩ : ∃ T, T = txt (pageB XC) := ⟨_, rfl⟩
  rw [← hTS] at BO RY
  have PRT := fun wv => PR (pageB XC) wv (by omega)
  rw [← hTS] at PRT
  obtain ⟨LS, hLS⟩ : ∃ L, L = s.data.toList.take 3000 := ⟨_, rfl⟩
  have hLl : LS.length ≤ 3000 := by rw [hLS, List.length_take]; omega
  obtain ⟨S2, hS2⟩ : ∃ S, S = txt LS := ⟨_, rfl⟩
  have hs2a : 3000 < s.size → s.extract 0 3000 = S2 := fun h => by
    rw [hS2, hLS, ← txt_of s, extract_txt, List.drop_zero, txt_list]
  have hs2b : s.size ≤ 3000 → S2 = s := fun h => by
    rw [hS2, hLS, List.take_of_length_le (by show s.data.toList.length ≤ 3000; exact h)]; exact txt_of s
  have HS2a : Hid (3000 < s.size → s.extract 0 3000 = S2) := hs2a
  have HS2b : Hid (s.size ≤ 3000 → S2 = s) := hs2b
  have PRS := fun wv => PR LS wv (by omega)
  have RRS := fun wv => RR LS wv (by omega)
  rw [← hS2] at PRS RRS
  have HZC : Hid (cutPg (rdS C.V C.D C.L LS).2 = (rdS C.V C.D C.L LS).2) := rd_cut _ _ _ _
  have HZF := rd_F C.V C.D C.L LS
  have HZE : Hid ((rdS C.V C.D C.L LS).1 = 0 → txt (pageB (rdS C.V C.D C.L LS).2) = S2 ∧ ckN C.V C.D C.L (rdS C.V C.D C.L LS).2 = 0 ∧ C.L ≤ 4 ∧ C.D ≤ 32) := fun h => by
    rcases rd_either C.V C.D C.L LS with ⟨_, e⟩ | ⟨e, _⟩
    · obtain ⟨h1, h2, h3, h4⟩ := read_again e
      exact ⟨by rw [h1, hS2], h2, h3, h4⟩
    · exact absurd h e
  have HZW : Hid ((rdS C.V C.D C.L LS).1 = 0 → (rdS C.V C.D C.L LS).2.T.length ≤ 1000 ∧ (cubeB (rdS C.V C.D C.L LS).2.K).length + (cubeB (rdS C.V C.D C.L LS).2.V).length ≤ 900000) := fun h => by
    have e := HZC.out
    have kk := cube_size (cut_dims (rdS C.V C.D C.L LS).2.K 20).1 (cut_dims (rdS C.V C.D C.L LS).2.K 20).2
    have kv := cube_size (cut_dims (rdS C.V C.D C.L LS).2.V 20).1 (cut_dims (rdS C.V C.D C.L LS).2.V 20).2
    rw [show cutC (rdS C.V C.D C.L LS).2.K 20 = (rdS C.V C.D C.L LS).2.K from congrArg Pg.K e] at kk
    rw [show cutC (rdS C.V C.D C.L LS).2.V 20 = (rdS C.V C.D C.L LS).2.V from congrArg Pg.V e] at kv
    have kt : (rdS C.V C.D C.L LS).2.T.length ≤ 140 := by
      rw [← e]
      show ((rdS C.V C.D C.L LS).2.T.take 140).length ≤ 140
      rw [List.length_take]
      omega
    exact ⟨by omega, by omega⟩
  have HTS : Hid (TS = txt (pageB XC)) := hTS
  clear hXC hTS hS2 hLS hs2a hs2b PR RR hv hF
  generalize hrd : rdS C.V C.D C.L LS = RD at *
  clear hrd
  have X0 := blk_new w 23 #[.int .i64 C.V, .int .i64 C.D, .int .i64 C.Hd, .int .i64 C.H, .int .i64 C.L]
  have B0 : Below w.heap.size w (w.alloc (.cells #[.int .i64 C.V, .int .i64 C.D, .int .i64 C.Hd, .int .i64 C.H, .int .i64 C.L] 23)) := (Below.refl _ _).alloc (Nat.le_refl _) _
  generalize hw1 : w.alloc (.cells #[.int .i64 C.V, .int .i64 C.D, .int .i64 C.Hd, .int .i64 C.H, .int .i64 C.L] 23) = w1 at *
  have XB := blk_new w1 47 vv.cells
  have B1 : Below w1.heap.size w1 (w1.alloc (.cells vv.cells 47)) := (Below.refl _ _).alloc (Nat.le_refl _) _
  generalize hw2 : w1.alloc (.cells vv.cells 47) = w2 at *
  replace X0 := X0.below B1
  have DB := below_then B0 B1
  clear B0 B1
  go_enter Try.func5, Try.ntmps5
  go_wp2_with (refine wpList_load_row rfl 47 _ rfl w1.heap.size rfl 47 vv.cells (0, 0) _ XB Try.underlying47 rfl Try.infoPg ?_)
  refine (TA w2 DB).mono ?_
  rintro e w3 ⟨p, rfl, N3, B3⟩
  have PA := N3.now
  clear N3 TA XB hw1 hw2
  replace X0 := X0.below B3
  replace DB := below_then DB B3
  clear B3
  obtain ⟨Z7, X7, BV, zV⟩ := var3j w3 44 #[.slice none 0 0, .int .i64 0, .slice none 0 0, .slice none 0 0] p.cells
  generalize hz1 : w3.alloc (.cells #[.slice none 0 0, .int .i64 0, .slice none 0 0, .slice none 0 0] 44) = wz at *
  generalize hz2 : wz.setRow w3.heap.size p.cells = w4 at *
  replace X0 := X0.below BV
  replace PA := PA.below BV
  replace DB := below_then DB BV
  clear BV
  go_upto_region 2 with (refine wpList_store_row rfl 44 _ _ rfl w3.heap.size p.cells rfl rfl 44 _ Z7 Try.infoTg rfl (by simp [PgV.cells, Sl.v, Value.oneCell']) ?_; rw [hz2])
  clear hz1 hz2 Z7 zV
  have BD : Below w4.heap.size w4 w4.drew := (Below.refl _ w4).drew
  replace X0 := X0.below BD
  replace X7 := X7.below BD
  replace PA := PA.below BD
  replace DB := below_then DB BD
  clear BD
  refine wp_region_held_drew (S := fun w' => Blk w' w.heap.size 23 #[.int .i64 C.V, .int .i64 C.D, .int .i64 C.Hd, .int .i64 C.H, .int .i64 C.L] ∧ Blk w' w3.heap.size 44 p.cells) (by kernel_rfl) (⟨X0, X7⟩) (fun hHeld => ?_)
  generalize hA : w4.drew = wA at *
  clear hA
  refine wpAnyH_take (i := 0) (v := .agg #[.int .i64 C.V, .int .i64 C.D, .int .i64 C.Hd, .int .i64 C.H, .int .i64 C.L]) rfl (by kernel_rfl) (by kernel_rfl) (by kernel_rfl) (fun _ _ _ h => h) (yields_rowJ (by rfl) 23 _ rfl w.heap.size rfl 23 #[.int .i64 C.V, .int .i64 C.D, .int .i64 C.Hd, .int .i64 C.H, .int .i64 C.L] _ (fun w' hS => hS.1) Try.underlying23 rfl Try.infoC) (by assumption) ?_
  simp only [List.getElem_toArray, List.getElem_cons_zero, Act.put, List.setIfInBounds_toArray, List.set_cons_zero, List.set_cons_succ]
  refine wpAnyH_take (i := 1) (v := .agg p.cells) rfl (by kernel_rfl) (by kernel_rfl) (by kernel_rfl) (fun _ _ _ h => h) (yields_rowJ (by rfl) 44 _ rfl w3.heap.size rfl 44 p.cells _ (fun w' hS => hS.2) Try.underlying44 rfl Try.infoTg) (by assumption) ?_
  simp only [List.getElem_toArray, List.getElem_cons_succ, List.getElem_cons_zero, Act.put, List.setIfInBounds_toArray, List.set_cons_zero, List.set_cons_succ]
  refine wpAnyH_ready (rs := [2]) (by kernel_rfl) (by simp) ?_
  refine AllReadyH.cons rfl (fun Kc hKc => ?_) AllReadyH.nil
  simp only [List.getElem_toArray, List.getElem_cons_succ, List.getElem_cons_zero]
  rw [if_pos (by rfl)]
  go_wp2_with fail
  refine (OF p _ PA).mono ?_
  rintro e wB ⟨y, rfl, N7, EM⟩
  replace X0 := X0.below EM
  replace X7 := X7.below EM
  replace PA := PA.below EM
  replace DB := below_then DB EM
  have PY := N7.now
  clear N7
  clear EM
  go_wp2_with fail
  refine hKc.out _ _ (⟨X0, X7⟩) (fun hHeld => ?_)
  clear hKc Kc
  have BOY := BO y _ PY
  have BBY := BB y _ PY
  clear BO BB OF
  obtain ⟨q, hq⟩ : ∃ q, q = ckN C.V C.D C.L XC := ⟨_, rfl⟩
  have HQ : Hid (q = ckN C.V C.D C.L XC) := hq
  rw [← hq] at BOY BBY RK
  clear hq
  by_cases hq0 : q = 0
  · subst hq0
    refine wpAnyH_ready (rs := [3]) (by kernel_rfl) (by simp) ?_
    refine AllReadyH.cons rfl (fun Kc hKc => ?_) AllReadyH.nil
    simp only [List.getElem_toArray, List.getElem_cons_succ, List.getElem_cons_zero]
    rw [if_pos (by rfl)]
    go_wp2_with fail
    refine (BOY trivial).mono ?_
    rintro e wC ⟨rfl, EM⟩
    replace X0 := X0.below EM
    replace X7 := X7.below EM
    replace PA := PA.below EM
    replace DB := below_then DB EM
    clear BOY BBY
    clear EM
    go_wp2_with fail
    refine hKc.out _ _ (⟨X0, X7⟩) (fun hHeld => ?_)
    clear hKc Kc
    refine wpAnyH_take (i := 4) (v := (.tuple #[(.string TS), (.int .i64 0)])) rfl (by kernel_rfl) (by kernel_rfl) (by kernel_rfl) (fun _ _ _ h => h) (Or.inl ⟨by rfl, ?_⟩) (by assumption) ?_
    · intro w' hSw
      go_simp
    simp only [List.getElem_toArray, List.getElem_cons_succ, List.getElem_cons_zero, Act.put, List.setIfInBounds_toArray, List.set_cons_zero, List.set_cons_succ]
    refine wpAnyH_take (i := 5) (v := (.string TS)) rfl (by kernel_rfl) (by kernel_rfl) (by kernel_rfl) (fun _ _ _ h => h) (Or.inl ⟨by rfl, ?_⟩) (by assumption) ?_
    · intro w' hSw
      go_simp
    simp only [List.getElem_toArray, List.getElem_cons_succ, List.getElem_cons_zero, Act.put, List.setIfInBounds_toArray, List.set_cons_zero, List.set_cons_succ]
    refine wpAnyH_take (i := 6) (v := (.int .i64 0)) rfl (by kernel_rfl) (by kernel_rfl) (by kernel_rfl) (fun _ _ _ h => h) (Or.inl ⟨by rfl, ?_⟩) (by assumption) ?_
    · intro w' hSw
      go_simp
    simp only [List.getElem_toArray, List.getElem_cons_succ, List.getElem_cons_zero, Act.put, List.setIfInBounds_toArray, List.set_cons_zero, List.set_cons_succ]
    refine wpAnyH_take (i := 7) (v := (.string TS)) rfl (by kernel_rfl) (by kernel_rfl) (by kernel_rfl) (fun _ _ _ h => h) (Or.inl ⟨by rfl, ?_⟩) (by assumption) ?_
    · intro w' hSw
      go_simp
    simp only [List.getElem_toArray, List.getElem_cons_succ, List.getElem_cons_zero, Act.put, List.setIfInBounds_toArray, List.set_cons_zero, List.set_cons_succ]
    refine wpAnyH_take (i := 8) (v := (.int .i64 0)) rfl (by kernel_rfl) (by kernel_rfl) (by kernel_rfl) (fun _ _ _ h => h) (Or.inl ⟨by rfl, ?_⟩) (by assumption) ?_
    · intro w' hSw
      go_simp
    simp only [List.getElem_toArray, List.getElem_cons_succ, List.getElem_cons_zero, Act.put, List.setIfInBounds_toArray, List.set_cons_zero, List.set_cons_succ]
    refine wpAnyH_done (by kernel_rfl) ?_ _
    clear hHeld PY
    go_wp2_with (first | (refine wpList_load_row rfl 23 _ rfl w.heap.size rfl 23 #[.int .i64 C.V, .int .i64 C.D, .int .i64 C.Hd, .int .i64 C.H, .int .i64 C.L] (0, 0) _ X0 Try.underlying23 rfl Try.infoC ?_) | (refine wpList_load_row rfl 44 _ rfl w3.heap.size rfl 44 p.cells (0, 0) _ X7 Try.underlying44 rfl Try.infoTg ?_))
    refine (RK p _ PA).mono ?_
    rintro e wD ⟨rfl, EM⟩
    replace X0 := X0.below EM
    replace X7 := X7.below EM
    replace PA := PA.below EM
    replace DB := below_then DB EM
    clear EM RK
    go_wp2_with fail
    refine (awake11_any _).mono ?_
    rintro e wE ⟨rfl, EM⟩
    replace X0 := X0.below EM
    replace X7 := X7.below EM
    replace PA := PA.below EM
    replace DB := below_then DB EM
    clear EM
    obtain ⟨sm, hsm⟩ : ∃ b : Bool, (b = true → C.L ≤ 4 ∧ C.D ≤ 32 ∧ C.V ≤ 64) ∧ b = (decide (C.L ≤ 4) && decide (C.D ≤ 32) && decide (C.V ≤ 64)) := ⟨_, fun h => by simp only [Bool.and_eq_true, decide_eq_true_eq] at h; exact ⟨h.1.1, h.1.2, h.2⟩, rfl⟩
    have HSM : Hid (sm = true → C.L ≤ 4 ∧ C.D ≤ 32 ∧ C.V ≤ 64) := hsm.1
    replace hsm := hsm.2
    go_upto_region 6 with fail
    go_cut [60] from 44 to 60 (fun s60 wc => s60 = .bool sm ∧ wc = wE)
    case first =>
      have a0 : wE.cell? ⟨w.heap.size, 0, none⟩ = some (.int .i64 C.V) := X0.cell 0 rfl
      have a1 : wE.cell? ⟨w.heap.size, 1, none⟩ = some (.int .i64 C.D) := X0.cell 1 rfl
      have a2 : wE.cell? ⟨w.heap.size, 2, none⟩ = some (.int .i64 C.Hd) := X0.cell 2 rfl
      have a3 : wE.cell? ⟨w.heap.size, 3, none⟩ = some (.int .i64 C.H) := X0.cell 3 rfl
      have a4 : wE.cell? ⟨w.heap.size, 4, none⟩ = some (.int .i64 C.L) := X0.cell 4 rfl
      have HSE : Hid (sm = (decide (C.L ≤ 4) && decide (C.D ≤ 32) && decide (C.V ≤ 64))) := hsm
      clear hsm
      by_cases h1 : C.L ≤ 4
      rotate_left
      · have e1 : decide (C.L ≤ 4) = false := decide_eq_false h1
        have e9 : sm = false := by rw [HSE.out, e1]; rfl
        clear HSE
        subst e9
        go_wp2_with fail
        go_meet
        case rel => exact ⟨rfl, rfl⟩
      have e1 : decide (C.L ≤ 4) = true := decide_eq_true h1
      by_cases h2 : C.D ≤ 32
      rotate_left
      · have e2 : decide (C.D ≤ 32) = false := decide_eq_false h2
        have e9 : sm = false := by rw [HSE.out, e1, e2]; rfl
        clear HSE
        subst e9
        go_wp2_with fail
        go_meet
        case rel => exact ⟨rfl, rfl⟩
      have e2 : decide (C.D ≤ 32) = true := decide_eq_true h2
      by_cases h3 : C.V ≤ 64
      · have e3 : decide (C.V ≤ 64) = true := decide_eq_true h3
        have e9 : sm = true := by rw [HSE.out, e1, e2, e3]; rfl
        clear HSE
        subst e9
        go_wp2_with fail
        go_meet
        case rel => exact ⟨rfl, rfl⟩
      · have e3 : decide (C.V ≤ 64) = false := decide_eq_false h3
        have e9 : sm = false := by rw [HSE.out, e1, e2, e3]; rfl
        clear HSE
        subst e9
        go_wp2_with fail
        go_meet
        case rel => exact ⟨rfl, rfl⟩
    case rest =>
    obtain ⟨rfl, h8⟩ := hcut
    obtain rfl := h8.symm
    clear h8 hsm
    go_upto_if 60 with fail
    go_cut [11, 12] from 60 to 81 (fun s11 s12 wc => Blk wc w.heap.size 23 #[.int .i64 C.V, .int .i64 C.D, .int .i64 C.Hd, .int .i64 C.H, .int .i64 C.L] ∧ Below w.heap.size w wc)
    case first =>
      rcases sm with _ | _
      · go_wp2_with fail
        go_meet
        case rel => exact ⟨X0, DB⟩
      · obtain ⟨hL, hDd, hVv⟩ := HSM.out rfl
        have hrt : rdS C.V C.D C.L (pageB XC) = (0, XC) := page_backI HQ.out.symm (cube_small PA.k) (cube_small PA.v) (by omega) hDd hL
        have PRX := PRT wE
        rw [hrt] at PRX
        simp only at PRX
        clear hL hDd hVv hrt HSM PRT
        go_wp2_with (refine wpList_load_row rfl 23 _ rfl w.heap.size rfl 23 #[.int .i64 C.V, .int .i64 C.D, .int .i64 C.Hd, .int .i64 C.H, .int .i64 C.L] (0, 0) _ X0 Try.underlying23 rfl Try.infoC ?_)
        refine PRX.mono ?_
        rintro e v1 ⟨r, rfl, N5, BU⟩
        have PR1 := N5.now
        clear N5 PRX
        replace X0 := X0.below BU
        replace X7 := X7.below BU
        replace PA := PA.below BU
        replace DB := below_then DB BU
        clear BU
        obtain ⟨Z11, X11, BV, zV⟩ := var3j v1 47 #[.slice none 0 0, .int .i64 0, .slice none 0 0, .slice none 0 0] r.cells
        generalize hz1 : v1.alloc (.cells #[.slice none 0 0, .int .i64 0, .slice none 0 0, .slice none 0 0] 47) = wz at *
        generalize hz2 : wz.setRow v1.heap.size r.cells = v2 at *
        replace X0 := X0.below BV
        replace X7 := X7.below BV
        replace PA := PA.below BV
        replace PR1 := PR1.below BV
        replace DB := below_then DB BV
        clear BV
        go_upto_region 8 with (refine wpList_store_row rfl 47 _ _ rfl v1.heap.size r.cells rfl rfl 47 _ Z11 Try.infoPg rfl (by simp [PgV.cells, Sl.v, Value.oneCell']) ?_; rw [hz2])
        clear hz1 hz2 Z11 zV
        have BD : Below v2.heap.size v2 v2.drew := (Below.refl _ v2).drew
        replace X0 := X0.below BD
        replace X7 := X7.below BD
        replace X11 := X11.below BD
        replace PA := PA.below BD
        replace PR1 := PR1.below BD
        replace DB := below_then DB BD
        clear BD
        have hss : (TS.toList == TS.toList) = true := by simp
        refine wp_region_held_drew (S := fun w' => Blk w' w3.heap.size 44 p.cells ∧ Blk w' v1.heap.size 47 r.cells) (by kernel_rfl) (⟨X7, X11⟩) (fun hHeld => ?_)
        generalize hA : v2.drew = vA at *
        clear hA
        refine wpAnyH_take (i := 0) (v := (.string TS)) rfl (by kernel_rfl) (by kernel_rfl) (by kernel_rfl) (fun _ _ _ h => h) (Or.inl ⟨by rfl, ?_⟩) (by assumption) ?_
        · intro w' hSw
          go_simp
        simp only [List.getElem_toArray, List.getElem_cons_zero, Act.put, List.setIfInBounds_toArray, List.set_cons_zero, List.set_cons_succ]
        refine wpAnyH_take (i := 1) (v := .agg p.cells) rfl (by kernel_rfl) (by kernel_rfl) (by kernel_rfl) (fun _ _ _ h => h) (yields_rowJ (by rfl) 44 _ rfl w3.heap.size rfl 44 p.cells _ (fun w' hS => hS.1) Try.underlying44 rfl Try.infoTg) (by assumption) ?_
        simp only [List.getElem_toArray, List.getElem_cons_succ, List.getElem_cons_zero, Act.put, List.setIfInBounds_toArray, List.set_cons_zero, List.set_cons_succ]
        refine wpAnyH_ready (rs := [2]) (by kernel_rfl) (by simp) ?_
        refine AllReadyH.cons rfl (fun Kc hKc => ?_) AllReadyH.nil
        simp only [List.getElem_toArray, List.getElem_cons_succ, List.getElem_cons_zero]
        rw [if_pos (by rfl)]
        go_wp2_with fail
        refine (RY p _ PA).mono ?_
        rintro e vB ⟨rfl, EM⟩
        replace X0 := X0.below EM
        replace X7 := X7.below EM
        replace X11 := X11.below EM
        replace PA := PA.below EM
        replace PR1 := PR1.below EM
        replace DB := below_then DB EM
        clear RY
        clear EM
        go_wp2_with fail
        refine hKc.out _ _ (⟨X7, X11⟩) (fun hHeld => ?_)
        clear hKc Kc
        refine wpAnyH_take (i := 3) (v := (.bool false)) rfl (by kernel_rfl) (by kernel_rfl) (by kernel_rfl) (fun _ _ _ h => h) (Or.inl ⟨by rfl, ?_⟩) (by assumption) ?_
        · intro w' hSw
          go_simp
        simp only [List.getElem_toArray, List.getElem_cons_succ, List.getElem_cons_zero, Act.put, List.setIfInBounds_toArray, List.set_cons_zero, List.set_cons_succ]
        refine wpAnyH_take (i := 4) (v := (.bool false)) rfl (by kernel_rfl) (by kernel_rfl) (by kernel_rfl) (fun _ _ _ h => h) (Or.inl ⟨by rfl, ?_⟩) (by assumption) ?_
        · intro w' hSw
          go_simp
        simp only [List.getElem_toArray, List.getElem_cons_succ, List.getElem_cons_zero, Act.put, List.setIfInBounds_toArray, List.set_cons_zero, List.set_cons_succ]
        refine wpAnyH_take (i := 5) (v := (.int .i64 0)) rfl (by kernel_rfl) (by kernel_rfl) (by kernel_rfl) (fun _ _ _ h => h) (Or.inl ⟨by rfl, ?_⟩) (by assumption) ?_
        · intro w' hSw
          go_simp
        simp only [List.getElem_toArray, List.getElem_cons_succ, List.getElem_cons_zero, Act.put, List.setIfInBounds_toArray, List.set_cons_zero, List.set_cons_succ]
        refine wpAnyH_take (i := 6) (v := (.bool false)) rfl (by kernel_rfl) (by kernel_rfl) (by kernel_rfl) (fun _ _ _ h => h) (Or.inl ⟨by rfl, ?_⟩) (by assumption) ?_
        · intro w' hSw
          go_simp
        simp only [List.getElem_toArray, List.getElem_cons_succ, List.getElem_cons_zero, Act.put, List.setIfInBounds_toArray, List.set_cons_zero, List.set_cons_succ]
        refine wpAnyH_take (i := 7) (v := (.bool false)) rfl (by kernel_rfl) (by kernel_rfl) (by kernel_rfl) (fun _ _ _ h => h) (Or.inl ⟨by rfl, ?_⟩) (by assumption) ?_
        · intro w' hSw
          go_simp
        simp only [List.getElem_toArray, List.getElem_cons_succ, List.getElem_cons_zero, Act.put, List.setIfInBounds_toArray, List.set_cons_zero, List.set_cons_succ]
        refine wpAnyH_take (i := 8) (v := (.bool false)) rfl (by kernel_rfl) (by kernel_rfl) (by kernel_rfl) (fun _ _ _ h => h) (Or.inl ⟨by rfl, ?_⟩) (by assumption) ?_
        · intro w' hSw
          go_simp
        simp only [List.getElem_toArray, List.getElem_cons_succ, List.getElem_cons_zero, Act.put, List.setIfInBounds_toArray, List.set_cons_zero, List.set_cons_succ]
        refine wpAnyH_take (i := 9) (v := .agg r.cells) rfl (by kernel_rfl) (by kernel_rfl) (by kernel_rfl) (fun _ _ _ h => h) (yields_rowJ (by rfl) 47 _ rfl v1.heap.size rfl 47 r.cells _ (fun w' hS => hS.2) Try.underlying47 rfl Try.infoPg) (by assumption) ?_
        simp only [List.getElem_toArray, List.getElem_cons_succ, List.getElem_cons_zero, Act.put, List.setIfInBounds_toArray, List.set_cons_zero, List.set_cons_succ]
        refine wpAnyH_take (i := 11) (v := .agg p.cells) rfl (by kernel_rfl) (by kernel_rfl) (by kernel_rfl) (fun _ _ _ h => h) (yields_rowJ (by rfl) 44 _ rfl w3.heap.size rfl 44 p.cells _ (fun w' hS => hS.1) Try.underlying44 rfl Try.infoTg) (by assumption) ?_
        simp only [List.getElem_toArray, List.getElem_cons_succ, List.getElem_cons_zero, Act.put, List.setIfInBounds_toArray, List.set_cons_zero, List.set_cons_succ]
        refine wpAnyH_ready (rs := [10]) (by kernel_rfl) (by simp) ?_
        refine AllReadyH.cons rfl (fun Kc hKc => ?_) AllReadyH.nil
        simp only [List.getElem_toArray, List.getElem_cons_succ, List.getElem_cons_zero]
        rw [if_pos (by rfl)]
        go_wp2_with fail
        refine (TO r _ PR1).mono ?_
        rintro e vC ⟨z, rfl, N7, EM⟩
        replace X0 := X0.below EM
        replace X7 := X7.below EM
        replace X11 := X11.below EM
        replace PA := PA.below EM
        replace PR1 := PR1.below EM
        replace DB := below_then DB EM
        have PZ := N7.now
        clear N7 TO
        clear EM
        go_wp2_with fail
        refine hKc.out _ _ (⟨X7, X11⟩) (fun hHeld => ?_)
        clear hKc Kc
        refine wpAnyH_ready (rs := [12]) (by kernel_rfl) (by simp) ?_
        refine AllReadyH.cons rfl (fun Kc hKc => ?_) AllReadyH.nil
        simp only [List.getElem_toArray, List.getElem_cons_succ, List.getElem_cons_zero]
        rw [if_pos (by rfl)]
        go_wp2_with fail
        refine (same11_any z p XC _ PZ PA).mono ?_
        rintro e vD ⟨rfl, EM⟩
        replace X0 := X0.below EM
        replace X7 := X7.below EM
        replace X11 := X11.below EM
        replace PA := PA.below EM
        replace PR1 := PR1.below EM
        replace DB := below_then DB EM
        clear PZ
        clear EM
        go_wp2_with fail
        refine hKc.out _ _ (⟨X7, X11⟩) (fun hHeld => ?_)
        clear hKc Kc
        refine wpAnyH_take (i := 13) (v := (.bool false)) rfl (by kernel_rfl) (by kernel_rfl) (by kernel_rfl) (fun _ _ _ h => h) (Or.inl ⟨by rfl, ?_⟩) (by assumption) ?_
        · intro w' hSw
          go_simp
        simp only [List.getElem_toArray, List.getElem_cons_succ, List.getElem_cons_zero, Act.put, List.setIfInBounds_toArray, List.set_cons_zero, List.set_cons_succ]
        refine wpAnyH_take (i := 14) (v := (.bool false)) rfl (by kernel_rfl) (by kernel_rfl) (by kernel_rfl) (fun _ _ _ h => h) (Or.inl ⟨by rfl, ?_⟩) (by assumption) ?_
        · intro w' hSw
          go_simp
        simp only [List.getElem_toArray, List.getElem_cons_succ, List.getElem_cons_zero, Act.put, List.setIfInBounds_toArray, List.set_cons_zero, List.set_cons_succ]
        refine wpAnyH_done (by kernel_rfl) ?_ _
        clear hHeld
        go_wp2_with fail
        go_meet
        case rel => exact ⟨X0, DB⟩
    case rest =>
    obtain ⟨X0, DB⟩ := hcut
    clear RY TO PRT PA X7 HSM
    generalize wc = wt at *
    go_upto_if 84 with fail
    go_cut [2] from 84 to 86 (fun s2 wc => s2 = .string S2 ∧ wc = wt)
    case first =>
      by_cases h3 : 3000 < s.size
      · have hzi : decide ((s.size : Int) > 3000) = true := decide_eq_true (by omega)
        have hex := HS2a.out h3
        go_wp2_with fail
        go_meet
        case rel => exact ⟨rfl, rfl⟩
      · have hzi : decide ((s.size : Int) > 3000) = false := decide_eq_false (by omega)
        have hex := HS2b.out (by omega)
        subst hex
        go_wp2_with fail
        go_meet
        case rel => exact ⟨rfl, rfl⟩
    case rest =>
    obtain ⟨rfl, h8⟩ := hcut
    obtain rfl := h8.symm
    clear h8
    go_wp2_with (refine wpList_load_row rfl 23 _ rfl w.heap.size rfl 23 #[.int .i64 C.V, .int .i64 C.D, .int .i64 C.Hd, .int .i64 C.H, .int .i64 C.L] (0, 0) _ X0 Try.underlying23 rfl Try.infoC ?_)
    refine (PRS _).mono ?_
    rintro e u1 ⟨pr, rfl, N5, BU⟩
    have PR1 := N5.now
    clear N5
    replace X0 := X0.below BU
    replace DB := below_then DB BU
    clear BU
    obtain ⟨Z13, X13, BV, zV⟩ := var3j u1 47 #[.slice none 0 0, .int .i64 0, .slice none 0 0, .slice none 0 0] pr.cells
    generalize hz1 : u1.alloc (.cells #[.slice none 0 0, .int .i64 0, .slice none 0 0, .slice none 0 0] 47) = wz at *
    generalize hz2 : wz.setRow u1.heap.size pr.cells = u2 at *
    replace X0 := X0.below BV
    replace PR1 := PR1.below BV
    replace DB := below_then DB BV
    clear BV
    go_wp2_with (first | (refine wpList_load_row rfl 23 _ rfl w.heap.size rfl 23 #[.int .i64 C.V, .int .i64 C.D, .int .i64 C.Hd, .int .i64 C.H, .int .i64 C.L] (0, 0) _ X0 Try.underlying23 rfl Try.infoC ?_) | (refine wpList_store_row rfl 47 _ _ rfl u1.heap.size pr.cells rfl rfl 47 _ Z13 Try.infoPg rfl (by simp [PgV.cells, Sl.v, Value.oneCell']) ?_; rw [hz2]))
    refine (RRS _).mono ?_
    rintro e u3 ⟨rr, rfl, PR2, BU⟩
    clear hz1 hz2 Z13 zV
    replace X0 := X0.below BU
    replace X13 := X13.below BU
    replace PR1 := PR1.below BU
    replace DB := below_then DB BU
    clear BU
    obtain ⟨Z15, X15, BV, zV⟩ := var3j u3 44 #[.slice none 0 0, .int .i64 0, .slice none 0 0, .slice none 0 0] rr.cells
    generalize hz1 : u3.alloc (.cells #[.slice none 0 0, .int .i64 0, .slice none 0 0, .slice none 0 0] 44) = wz at *
    generalize hz2 : wz.setRow u3.heap.size rr.cells = u4 at *
    replace X0 := X0.below BV
    replace X13 := X13.below BV
    replace PR1 := PR1.below BV
    replace PR2 := PR2.below BV
    replace DB := below_then DB BV
    clear BV
    go_upto_region 14 with (refine wpList_store_row rfl 44 _ _ rfl u3.heap.size rr.cells rfl rfl 44 _ Z15 Try.infoTg rfl (by simp [PgV.cells, Sl.v, Value.oneCell']) ?_; rw [hz2])
    clear hz1 hz2 Z15 zV X0
    have BD : Below u4.heap.size u4 u4.drew := (Below.refl _ u4).drew
    replace X13 := X13.below BD
    replace X15 := X15.below BD
    replace PR1 := PR1.below BD
    replace PR2 := PR2.below BD
    replace DB := below_then DB BD
    clear BD
    obtain ⟨g, hg⟩ : ∃ g, RD.1 = g := ⟨_, rfl⟩
    have HG : Hid (RD.1 = g) := hg
    rw [hg]
    clear hg
    have TR := fun wv (h : PgAt wv pr RD.2) => told11_any pr RD.2 wv h.raw
    rw [HZC.out] at TR
    refine wp_region_held_drew (S := fun w' => Blk w' u1.heap.size 47 pr.cells ∧ Blk w' u3.heap.size 44 rr.cells) (by kernel_rfl) (⟨X13, X15⟩) (fun hHeld => ?_)
    generalize hA : u4.drew = uA at *
    clear hA
    refine wpAnyH_take (i := 0) (v := (.int .i64 g)) rfl (by kernel_rfl) (by kernel_rfl) (by kernel_rfl) (fun _ _ _ h => h) (Or.inl ⟨by rfl, ?_⟩) (by assumption) ?_
    · intro w' hSw
      go_simp
    simp only [List.getElem_toArray, List.getElem_cons_zero, Act.put, List.setIfInBounds_toArray, List.set_cons_zero, List.set_cons_succ]
    refine wpAnyH_take (i := 1) (v := (.int .i64 g)) rfl (by kernel_rfl) (by kernel_rfl) (by kernel_rfl) (fun _ _ _ h => h) (Or.inl ⟨by rfl, ?_⟩) (by assumption) ?_
    · intro w' hSw
      go_simp
    simp only [List.getElem_toArray, List.getElem_cons_succ, List.getElem_cons_zero, Act.put, List.setIfInBounds_toArray, List.set_cons_zero, List.set_cons_succ]
    refine wpAnyH_take (i := 2) (v := (.bool false)) rfl (by kernel_rfl) (by kernel_rfl) (by kernel_rfl) (fun _ _ _ h => h) (Or.inl ⟨by rfl, ?_⟩) (by assumption) ?_
    · intro w' hSw
      go_simp
    simp only [List.getElem_toArray, List.getElem_cons_succ, List.getElem_cons_zero, Act.put, List.setIfInBounds_toArray, List.set_cons_zero, List.set_cons_succ]
    refine wpAnyH_take (i := 3) (v := (.bool false)) rfl (by kernel_rfl) (by kernel_rfl) (by kernel_rfl) (fun _ _ _ h => h) (Or.inl ⟨by rfl, ?_⟩) (by assumption) ?_
    · intro w' hSw
      go_simp
    simp only [List.getElem_toArray, List.getElem_cons_succ, List.getElem_cons_zero, Act.put, List.setIfInBounds_toArray, List.set_cons_zero, List.set_cons_succ]
    refine wpAnyH_take (i := 4) (v := .agg pr.cells) rfl (by kernel_rfl) (by kernel_rfl) (by kernel_rfl) (fun _ _ _ h => h) (yields_rowJ (by rfl) 47 _ rfl u1.heap.size rfl 47 pr.cells _ (fun w' hS => hS.1) Try.underlying47 rfl Try.infoPg) (by assumption) ?_
    simp only [List.getElem_toArray, List.getElem_cons_succ, List.getElem_cons_zero, Act.put, List.setIfInBounds_toArray, List.set_cons_zero, List.set_cons_succ]
    refine wpAnyH_take (i := 6) (v := .agg rr.cells) rfl (by kernel_rfl) (by kernel_rfl) (by kernel_rfl) (fun _ _ _ h => h) (yields_rowJ (by rfl) 44 _ rfl u3.heap.size rfl 44 rr.cells _ (fun w' hS => hS.2) Try.underlying44 rfl Try.infoTg) (by assumption) ?_
    simp only [List.getElem_toArray, List.getElem_cons_succ, List.getElem_cons_zero, Act.put, List.setIfInBounds_toArray, List.set_cons_zero, List.set_cons_succ]
    refine wpAnyH_ready (rs := [5]) (by kernel_rfl) (by simp) ?_
    refine AllReadyH.cons rfl (fun Kc hKc => ?_) AllReadyH.nil
    simp only [List.getElem_toArray, List.getElem_cons_succ, List.getElem_cons_zero]
    rw [if_pos (by rfl)]
    go_wp2_with fail
    refine (TR _ PR1).mono ?_
    rintro e uB ⟨z, rfl, N7, EM⟩
    replace X13 := X13.below EM
    replace X15 := X15.below EM
    replace PR1 := PR1.below EM
    replace PR2 := PR2.below EM
    replace DB := below_then DB EM
    have PZ := N7.now
    clear N7
    clear EM
    go_wp2_with fail
    refine hKc.out _ _ (⟨X13, X15⟩) (fun hHeld => ?_)
    clear hKc Kc
    refine wpAnyH_ready (rs := [7]) (by kernel_rfl) (by simp) ?_
    refine AllReadyH.cons rfl (fun Kc hKc => ?_) AllReadyH.nil
    simp only [List.getElem_toArray, List.getElem_cons_succ, List.getElem_cons_zero]
    rw [if_pos (by rfl)]
    go_wp2_with fail
    refine (same11_any z rr RD.2 _ PZ PR2).mono ?_
    rintro e uC ⟨rfl, EM⟩
    replace X13 := X13.below EM
    replace X15 := X15.below EM
    replace PR1 := PR1.below EM
    replace PR2 := PR2.below EM
    replace DB := below_then DB EM
    clear PZ
    clear EM
    go_wp2_with fail
    refine hKc.out _ _ (⟨X13, X15⟩) (fun hHeld => ?_)
    clear hKc Kc
    refine wpAnyH_take (i := 8) (v := (.bool false)) rfl (by kernel_rfl) (by kernel_rfl) (by kernel_rfl) (fun _ _ _ h => h) (Or.inl ⟨by rfl, ?_⟩) (by assumption) ?_
    · intro w' hSw
      go_simp
    simp only [List.getElem_toArray, List.getElem_cons_succ, List.getElem_cons_zero, Act.put, List.setIfInBounds_toArray, List.set_cons_zero, List.set_cons_succ]
    refine wpAnyH_take (i := 9) (v := (.bool false)) rfl (by kernel_rfl) (by kernel_rfl) (by kernel_rfl) (fun _ _ _ h => h) (Or.inl ⟨by rfl, ?_⟩) (by assumption) ?_
    · intro w' hSw
      go_simp
    simp only [List.getElem_toArray, List.getElem_cons_succ, List.getElem_cons_zero, Act.put, List.setIfInBounds_toArray, List.set_cons_zero, List.set_cons_succ]
    refine wpAnyH_done (by kernel_rfl) ?_ _
    clear hHeld TR X13 PR1
    by_cases hg0 : g = 0
    · subst hg0
      obtain ⟨hZ1, hZ2, hZ3, hZ4⟩ := HZE.out HG.out
      have hZs := HZW.out HG.out
      have RBX := rbytes11_any rr RD.2 _ PR2 HZF hZs.1 hZs.2
      rw [hZ1] at RBX
      clear hZ1 hZ2 hZ3 hZ4 hZs
      have hss : (S2.toList == S2.toList) = true := by simp
      obtain ⟨⟨r1, r2, r3⟩, rf, ⟨r4, r5, r6⟩, ⟨r7, r8, r9⟩⟩ := rr
      have z0 : uC.cell? ⟨u3.heap.size, 0, none⟩ = some (.slice r1 r2 r3) := X15.cell 0 rfl
      have z1 : uC.cell? ⟨u3.heap.size, 1, none⟩ = some (.int .i64 rf) := X15.cell 1 rfl
      have z2 : uC.cell? ⟨u3.heap.size, 2, none⟩ = some (.slice r4 r5 r6) := X15.cell 2 rfl
      have z3 : uC.cell? ⟨u3.heap.size, 3, none⟩ = some (.slice r7 r8 r9) := X15.cell 3 rfl
      rw [show (PgV.cells ⟨⟨r1, r2, r3⟩, rf, ⟨r4, r5, r6⟩, ⟨r7, r8, r9⟩⟩) = #[.slice r1 r2 r3, .int .i64 rf, .slice r4 r5 r6, .slice r7 r8 r9] from rfl] at RBX
      clear X15
      go_wp2_with fail
      refine RBX.mono ?_
      rintro e u9 ⟨rfl, BU⟩
      replace DB := below_then DB BU
      clear BU
      go_wp2_with fail
      go_ret
      exact ⟨rfl, DB⟩
    · have hgi : (g == 0) = false := by simpa using hg0
      go_wp2_with fail
      go_ret
      exact ⟨rfl, DB⟩
  · have hqi : (q == 0) = false := by simpa using hq0
    refine wpAnyH_ready (rs := [3]) (by kernel_rfl) (by simp) ?_
    refine AllReadyH.cons rfl (fun Kc hKc => ?_) AllReadyH.nil
    simp only [List.getElem_toArray, List.getElem_cons_succ, List.getElem_cons_zero]
    rw [if_pos (by rfl)]
    go_wp2_with fail
    refine (BBY hq0).mono ?_
    rintro e wC ⟨rfl, EM⟩
    replace X0 := X0.below EM
    replace X7 := X7.below EM
    replace PA := PA.below EM
    replace DB := below_then DB EM
    clear BOY BBY
    clear EM
    go_wp2_with fail
    refine hKc.out _ _ (⟨X0, X7⟩) (fun hHeld => ?_)
    clear hKc Kc
    refine wpAnyH_take (i := 4) (v := (.tuple #[(.string ⟨#[]⟩), (.int .i64 q)])) rfl (by kernel_rfl) (by kernel_rfl) (by kernel_rfl) (fun _ _ _ h => h) (Or.inl ⟨by rfl, ?_⟩) (by assumption) ?_
    · intro w' hSw
      go_simp
    simp only [List.getElem_toArray, List.getElem_cons_succ, List.getElem_cons_zero, Act.put, List.setIfInBounds_toArray, List.set_cons_zero, List.set_cons_succ]
    refine wpAnyH_take (i := 5) (v := (.string ⟨#[]⟩)) rfl (by kernel_rfl) (by kernel_rfl) (by kernel_rfl) (fun _ _ _ h => h) (Or.inl ⟨by rfl, ?_⟩) (by assumption) ?_
    · intro w' hSw
      go_simp
    simp only [List.getElem_toArray, List.getElem_cons_succ, List.getElem_cons_zero, Act.put, List.setIfInBounds_toArray, List.set_cons_zero, List.set_cons_succ]
    refine wpAnyH_take (i := 6) (v := (.int .i64 q)) rfl (by kernel_rfl) (by kernel_rfl) (by kernel_rfl) (fun _ _ _ h => h) (Or.inl ⟨by rfl, ?_⟩) (by assumption) ?_
    · intro w' hSw
      go_simp
    simp only [List.getElem_toArray, List.getElem_cons_succ, List.getElem_cons_zero, Act.put, List.setIfInBounds_toArray, List.set_cons_zero, List.set_cons_succ]
    refine wpAnyH_take (i := 7) (v := (.string ⟨#[]⟩)) rfl (by kernel_rfl) (by kernel_rfl) (by kernel_rfl) (fun _ _ _ h => h) (Or.inl ⟨by rfl, ?_⟩) (by assumption) ?_
    · intro w' hSw
      go_simp
    simp only [List.getElem_toArray, List.getElem_cons_succ, List.getElem_cons_zero, Act.put, List.setIfInBounds_toArray, List.set_cons_zero, List.set_cons_succ]
    refine wpAnyH_take (i := 8) (v := (.int .i64 q)) rfl (by kernel_rfl) (by kernel_rfl) (by kernel_rfl) (fun _ _ _ h => h) (Or.inl ⟨by rfl, ?_⟩) (by assumption) ?_
    · intro w' hSw
      go_simp
    simp only [List.getElem_toArray, List.getElem_cons_succ, List.getElem_cons_zero, Act.put, List.setIfInBounds_toArray, List.set_cons_zero, List.set_cons_succ]
    refine wpAnyH_done (by kernel_rfl) ?_ _
    clear hHeld PY
    go_wp2_with (first | (refine wpList_load_row rfl 23 _ rfl w.heap.size rfl 23 #[.int .i64 C.V, .int .i64 C.D, .int .i64 C.Hd, .int .i64 C.H, .int .i64 C.L] (0, 0) _ X0 Try.underlying23 rfl Try.infoC ?_) | (refine wpList_load_row rfl 44 _ rfl w3.heap.size rfl 44 p.cells (0, 0) _ X7 Try.underlying44 rfl Try.infoTg ?_))
    refine (RK p _ PA).mono ?_
    rintro e wD ⟨rfl, EM⟩
    replace X0 := X0.below EM
    replace X7 := X7.below EM
    replace PA := PA.below EM
    replace DB := below_then DB EM
    clear EM RK
    go_wp2_with fail
    refine (awake11_any _).mono ?_
    rintro e wE ⟨rfl, EM⟩
    replace X0 := X0.below EM
    replace X7 := X7.below EM
    replace PA := PA.below EM
    replace DB := below_then DB EM
    clear EM
    clear RY TO PRT X7 PA
    go_upto_region 10 with fail
    go_upto_if 84 with fail
    go_cut [2] from 84 to 86 (fun s2 wc => s2 = .string S2 ∧ wc = wE)
    case first =>
      by_cases h3 : 3000 < s.size
      · have hzi : decide ((s.size : Int) > 3000) = true := decide_eq_true (by omega)
        have hex := HS2a.out h3
        go_wp2_with fail
        go_meet
        case rel => exact ⟨rfl, rfl⟩
      · have hzi : decide ((s.size : Int) > 3000) = false := decide_eq_false (by omega)
        have hex := HS2b.out (by omega)
        subst hex
        go_wp2_with fail
        go_meet
        case rel => exact ⟨rfl, rfl⟩
    case rest =>
    obtain ⟨rfl, h8⟩ := hcut
    obtain rfl := h8.symm
    clear h8
    go_wp2_with (refine wpList_load_row rfl 23 _ rfl w.heap.size rfl 23 #[.int .i64 C.V, .int .i64 C.D, .int .i64 C.Hd, .int .i64 C.H, .int .i64 C.L] (0, 0) _ X0 Try.underlying23 rfl Try.infoC ?_)
    refine (PRS _).mono ?_
    rintro e u1 ⟨pr, rfl, N5, BU⟩
    have PR1 := N5.now
    clear N5
    replace X0 := X0.below BU
    replace DB := below_then DB BU
    clear BU
    obtain ⟨Z13, X13, BV, zV⟩ := var3j u1 47 #[.slice none 0 0, .int .i64 0, .slice none 0 0, .slice none 0 0] pr.cells
    generalize hz1 : u1.alloc (.cells #[.slice none 0 0, .int .i64 0, .slice none 0 0, .slice none 0 0] 47) = wz at *
    generalize hz2 : wz.setRow u1.heap.size pr.cells = u2 at *
    replace X0 := X0.below BV
    replace PR1 := PR1.below BV
    replace DB := below_then DB BV
    clear BV
    go_wp2_with (first | (refine wpList_load_row rfl 23 _ rfl w.heap.size rfl 23 #[.int .i64 C.V, .int .i64 C.D, .int .i64 C.Hd, .int .i64 C.H, .int .i64 C.L] (0, 0) _ X0 Try.underlying23 rfl Try.infoC ?_) | (refine wpList_store_row rfl 47 _ _ rfl u1.heap.size pr.cells rfl rfl 47 _ Z13 Try.infoPg rfl (by simp [PgV.cells, Sl.v, Value.oneCell']) ?_; rw [hz2]))
    refine (RRS _).mono ?_
    rintro e u3 ⟨rr, rfl, PR2, BU⟩
    clear hz1 hz2 Z13 zV
    replace X0 := X0.below BU
    replace X13 := X13.below BU
    replace PR1 := PR1.below BU
    replace DB := below_then DB BU
    clear BU
    obtain ⟨Z15, X15, BV, zV⟩ := var3j u3 44 #[.slice none 0 0, .int .i64 0, .slice none 0 0, .slice none 0 0] rr.cells
    generalize hz1 : u3.alloc (.cells #[.slice none 0 0, .int .i64 0, .slice none 0 0, .slice none 0 0] 44) = wz at *
    generalize hz2 : wz.setRow u3.heap.size rr.cells = u4 at *
    replace X0 := X0.below BV
    replace X13 := X13.below BV
    replace PR1 := PR1.below BV
    replace PR2 := PR2.below BV
    replace DB := below_then DB BV
    clear BV
    go_upto_region 14 with (refine wpList_store_row rfl 44 _ _ rfl u3.heap.size rr.cells rfl rfl 44 _ Z15 Try.infoTg rfl (by simp [PgV.cells, Sl.v, Value.oneCell']) ?_; rw [hz2])
    clear hz1 hz2 Z15 zV X0
    have BD : Below u4.heap.size u4 u4.drew := (Below.refl _ u4).drew
    replace X13 := X13.below BD
    replace X15 := X15.below BD
    replace PR1 := PR1.below BD
    replace PR2 := PR2.below BD
    replace DB := below_then DB BD
    clear BD
    obtain ⟨g, hg⟩ : ∃ g, RD.1 = g := ⟨_, rfl⟩
    have HG : Hid (RD.1 = g) := hg
    rw [hg]
    clear hg
    have TR := fun wv (h : PgAt wv pr RD.2) => told11_any pr RD.2 wv h.raw
    rw [HZC.out] at TR
    refine wp_region_held_drew (S := fun w' => Blk w' u1.heap.size 47 pr.cells ∧ Blk w' u3.heap.size 44 rr.cells) (by kernel_rfl) (⟨X13, X15⟩) (fun hHeld => ?_)
    generalize hA : u4.drew = uA at *
    clear hA
    refine wpAnyH_take (i := 0) (v := (.int .i64 g)) rfl (by kernel_rfl) (by kernel_rfl) (by kernel_rfl) (fun _ _ _ h => h) (Or.inl ⟨by rfl, ?_⟩) (by assumption) ?_
    · intro w' hSw
      go_simp
    simp only [List.getElem_toArray, List.getElem_cons_zero, Act.put, List.setIfInBounds_toArray, List.set_cons_zero, List.set_cons_succ]
    refine wpAnyH_take (i := 1) (v := (.int .i64 g)) rfl (by kernel_rfl) (by kernel_rfl) (by kernel_rfl) (fun _ _ _ h => h) (Or.inl ⟨by rfl, ?_⟩) (by assumption) ?_
    · intro w' hSw
      go_simp
    simp only [List.getElem_toArray, List.getElem_cons_succ, List.getElem_cons_zero, Act.put, List.setIfInBounds_toArray, List.set_cons_zero, List.set_cons_succ]
    refine wpAnyH_take (i := 2) (v := (.bool false)) rfl (by kernel_rfl) (by kernel_rfl) (by kernel_rfl) (fun _ _ _ h => h) (Or.inl ⟨by rfl, ?_⟩) (by assumption) ?_
    · intro w' hSw
      go_simp
    simp only [List.getElem_toArray, List.getElem_cons_succ, List.getElem_cons_zero, Act.put, List.setIfInBounds_toArray, List.set_cons_zero, List.set_cons_succ]
    refine wpAnyH_take (i := 3) (v := (.bool false)) rfl (by kernel_rfl) (by kernel_rfl) (by kernel_rfl) (fun _ _ _ h => h) (Or.inl ⟨by rfl, ?_⟩) (by assumption) ?_
    · intro w' hSw
      go_simp
    simp only [List.getElem_toArray, List.getElem_cons_succ, List.getElem_cons_zero, Act.put, List.setIfInBounds_toArray, List.set_cons_zero, List.set_cons_succ]
    refine wpAnyH_take (i := 4) (v := .agg pr.cells) rfl (by kernel_rfl) (by kernel_rfl) (by kernel_rfl) (fun _ _ _ h => h) (yields_rowJ (by rfl) 47 _ rfl u1.heap.size rfl 47 pr.cells _ (fun w' hS => hS.1) Try.underlying47 rfl Try.infoPg) (by assumption) ?_
    simp only [List.getElem_toArray, List.getElem_cons_succ, List.getElem_cons_zero, Act.put, List.setIfInBounds_toArray, List.set_cons_zero, List.set_cons_succ]
    refine wpAnyH_take (i := 6) (v := .agg rr.cells) rfl (by kernel_rfl) (by kernel_rfl) (by kernel_rfl) (fun _ _ _ h => h) (yields_rowJ (by rfl) 44 _ rfl u3.heap.size rfl 44 rr.cells _ (fun w' hS => hS.2) Try.underlying44 rfl Try.infoTg) (by assumption) ?_
    simp only [List.getElem_toArray, List.getElem_cons_succ, List.getElem_cons_zero, Act.put, List.setIfInBounds_toArray, List.set_cons_zero, List.set_cons_succ]
    refine wpAnyH_ready (rs := [5]) (by kernel_rfl) (by simp) ?_
    refine AllReadyH.cons rfl (fun Kc hKc => ?_) AllReadyH.nil
    simp only [List.getElem_toArray, List.getElem_cons_succ, List.getElem_cons_zero]
    rw [if_pos (by rfl)]
    go_wp2_with fail
    refine (TR _ PR1).mono ?_
    rintro e uB ⟨z, rfl, N7, EM⟩
    replace X13 := X13.below EM
    replace X15 := X15.below EM
    replace PR1 := PR1.below EM
    replace PR2 := PR2.below EM
    replace DB := below_then DB EM
    have PZ := N7.now
    clear N7
    clear EM
    go_wp2_with fail
    refine hKc.out _ _ (⟨X13, X15⟩) (fun hHeld => ?_)
    clear hKc Kc
    refine wpAnyH_ready (rs := [7]) (by kernel_rfl) (by simp) ?_
    refine AllReadyH.cons rfl (fun Kc hKc => ?_) AllReadyH.nil
    simp only [List.getElem_toArray, List.getElem_cons_succ, List.getElem_cons_zero]
    rw [if_pos (by rfl)]
    go_wp2_with fail
    refine (same11_any z rr RD.2 _ PZ PR2).mono ?_
    rintro e uC ⟨rfl, EM⟩
    replace X13 := X13.below EM
    replace X15 := X15.below EM
    replace PR1 := PR1.below EM
    replace PR2 := PR2.below EM
    replace DB := below_then DB EM
    clear PZ
    clear EM
    go_wp2_with fail
    refine hKc.out _ _ (⟨X13, X15⟩) (fun hHeld => ?_)
    clear hKc Kc
    refine wpAnyH_take (i := 8) (v := (.bool false)) rfl (by kernel_rfl) (by kernel_rfl) (by kernel_rfl) (fun _ _ _ h => h) (Or.inl ⟨by rfl, ?_⟩) (by assumption) ?_
    · intro w' hSw
      go_simp
    simp only [List.getElem_toArray, List.getElem_cons_succ, List.getElem_cons_zero, Act.put, List.setIfInBounds_toArray, List.set_cons_zero, List.set_cons_succ]
    refine wpAnyH_take (i := 9) (v := (.bool false)) rfl (by kernel_rfl) (by kernel_rfl) (by kernel_rfl) (fun _ _ _ h => h) (Or.inl ⟨by rfl, ?_⟩) (by assumption) ?_
    · intro w' hSw
      go_simp
    simp only [List.getElem_toArray, List.getElem_cons_succ, List.getElem_cons_zero, Act.put, List.setIfInBounds_toArray, List.set_cons_zero, List.set_cons_succ]
    refine wpAnyH_done (by kernel_rfl) ?_ _
    clear hHeld TR X13 PR1
    by_cases hg0 : g = 0
    · subst hg0
      obtain ⟨hZ1, hZ2, hZ3, hZ4⟩ := HZE.out HG.out
      have hZs := HZW.out HG.out
      have RBX := rbytes11_any rr RD.2 _ PR2 HZF hZs.1 hZs.2
      rw [hZ1] at RBX
      clear hZ1 hZ2 hZ3 hZ4 hZs
      have hss : (S2.toList == S2.toList) = true := by simp
      obtain ⟨⟨r1, r2, r3⟩, rf, ⟨r4, r5, r6⟩, ⟨r7, r8, r9⟩⟩ := rr
      have z0 : uC.cell? ⟨u3.heap.size, 0, none⟩ = some (.slice r1 r2 r3) := X15.cell 0 rfl
      have z1 : uC.cell? ⟨u3.heap.size, 1, none⟩ = some (.int .i64 rf) := X15.cell 1 rfl
      have z2 : uC.cell? ⟨u3.heap.size, 2, none⟩ = some (.slice r4 r5 r6) := X15.cell 2 rfl
      have z3 : uC.cell? ⟨u3.heap.size, 3, none⟩ = some (.slice r7 r8 r9) := X15.cell 3 rfl
      rw [show (PgV.cells ⟨⟨r1, r2, r3⟩, rf, ⟨r4, r5, r6⟩, ⟨r7, r8, r9⟩⟩) = #[.slice r1 r2 r3, .int .i64 rf, .slice r4 r5 r6, .slice r7 r8 r9] from rfl] at RBX
      clear X15
      go_wp2_with fail
      refine RBX.mono ?_
      rintro e u9 ⟨rfl, BU⟩
      replace DB := below_then DB BU
      clear BU
      go_wp2_with fail
      go_ret
      exact ⟨rfl, DB⟩
    · have hgi : (g == 0) = false := by simpa using hg0
      go_wp2_with fail
      go_ret
      exact ⟨rfl, DB⟩
end Go.Proofs.Ytpplnjmjldhlbaa

/- The given statement on BlockBytes: at every input the law returns true and its arguments read as before; no condition. -/
namespace Go.Proofs.Ytpplnjmjldhlbaa.blockBytes
open Go.ChangeShapes Go.WideShapes Go.ChangeAt Go.RowKit
open Go.ChangeMaps (open_string shut_string)
set_option linter.unusedVariables false
set_option maxRecDepth 100000 in
theorem lifted (os : Os) (started : os.Started) (H : Type) (enc : TypeId × Value → H) :
    ReturnsInHanded {} Try.checked os 5 .any (Rows.blockBytesSpec.pre6 enc Try.prog Try.f5 Rows.blockBytesRow.domain false) (Rows.blockBytesSpec.post enc Try.prog Try.f5 false true false false) := by
  refine returnsInHanded_of_change (C := Try.checked) Try.own started (by kernel_rfl) Try.func5
    (ChangeSpec.witness6 (enc := enc) (C := Try.checked) false ⟨#[], #[.agg #[.int .i64 0, .int .i64 0, .int .i64 0, .int .i64 0, .int .i64 0], .agg #[.slice none 0 0, .int .i64 0, .slice none 0 0, .slice none 0 0], .string ⟨#[]⟩], []⟩ 8 (by kernel_rfl) (by kernel_rfl) (by kernel_rfl) (by kernel_rfl)) ?_
  intro W base args ds gs before hval0 hW _ _
  have hval : ∀ (j : Nat) t v, Try.f5.params[j]? = some t → args[j]? = some v → Value.okWide Try.prog W .any base t v := hval0
  have hW' := hW
  obtain ⟨p, q, hA0, hV, rfl, _, _⟩ := hW
  have hA : DataW.TrodAll enc Try.prog W 0 (fun _ => true) true Try.f5.params.toList args.toList ds p := hA0
  rw [Try.params5] at hA hval
  obtain ⟨v0, vs0, d0, ds0, p0, q0, hargs, rfl, rfl, h0, r0⟩ := trodAll_cons hA
  obtain ⟨v1, vs1, d1, ds1, p1, q1, rfl, rfl, rfl, h1, r1⟩ := trodAll_cons r0
  obtain ⟨v2, vs2, d2, ds2, p2, q2, rfl, rfl, rfl, h2, r2⟩ := trodAll_cons r1
  obtain ⟨rfl, rfl, rfl⟩ := trodAll_nil r2
  obtain rfl : args = #[v0, v1, v2] := by cases args; simp_all
  obtain ⟨rfl, rfl⟩ := trodVars_none hV
  have k0 := h0
  obtain ⟨C0, rfl, g0⟩ := viewCfg (hval 0 _ v0 rfl rfl) h0
  have k1 := h1
  obtain ⟨vv1, X1, rfl, g1⟩ := viewPg (hval 1 _ v1 rfl rfl) h1
  have k2 := h2
  obtain ⟨a2, rfl, rfl, rfl, w2⟩ := open_string Try.underlying9 (hval 2 9 v2 rfl rfl) h2
  clear hA0 hval0
  simp only [List.append_nil] at hW'
  have hlt : ∀ x ∈ p0 ++ p1, x.block < W.heap.size := fun x hx => by
    have hx2 := hx
    exact hW'.lt x (by grind)
  refine (blockBytes_walk C0 vv1 X1 a2 W g0 g1 ).mono fun e W' ⟨he, hb⟩ => ?_
  subst he
  exact ⟨_, rfl, _, _, _, [], _, [], hW', trodAll_mk1 (shut_bool Try.underlying4 true), trodAll_cons_mk (Below.trod Try.laidOut (by kernel_rfl) (of_decide_eq_true (by kernel_rfl)) k0 hb (fun x hx => hlt x (by simp [hx]))) (trodAll_cons_mk (Below.trod Try.laidOut (by kernel_rfl) (of_decide_eq_true (by kernel_rfl)) k1 hb (fun x hx => hlt x (by simp [hx]))) (trodAll_cons_mk (shut_string Try.underlying9 w2) trodAll_mk0)), rfl, hb.frame _, fun h => by cases h⟩
end Go.Proofs.Ytpplnjmjldhlbaa.blockBytes
namespace Go.Proofs.Ytpplnjmjldhlbaa
/-- The given statement. -/
theorem blockBytes_holds : Rows.BlockBytesSaid :=
  OpenClaim.holds_of_wide 5 Try.f5 rfl rfl rfl rfl rfl rfl rfl ⟨rfl, rfl, rfl, rfl, rfl⟩ rfl rfl rfl rfl rfl (by kernel_rfl) Try.func5 (by kernel_rfl)
    (of_decide_eq_true (by kernel_rfl)) (by unfold Func.isWrapper; first | (rw [if_pos (by decide +kernel)]; kernel_rfl) | (rw [if_neg (by decide +kernel)]; exact ⟨rfl, rfl⟩))
    (fun os started H enc _ => blockBytes.lifted os started H enc)
#print axioms blockBytes_holds
end Go.Proofs.Ytpplnjmjldhlbaa
