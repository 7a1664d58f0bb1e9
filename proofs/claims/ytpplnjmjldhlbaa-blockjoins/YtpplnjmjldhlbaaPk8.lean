/- Contracts of the program's functions, part 8 of 10: what each call returns and leaves of memory. -/
import Derived.Test.YtpplnjmjldhlbaaPk6
import Derived.Test.YtpplnjmjldhlbaaPk7
import Derived.Test.YtpplnjmjldhlbaaPk3
import Derived.Deep.CutBlock
import Derived.Deep.CutRange
import Derived.Deep.MidRow
/- The document's Join of layer 11. Laid by tools/genrjoin11.py. -/
namespace Go.Proofs.Ytpplnjmjldhlbaa
open Go.ChangeShapes Go.WideShapes Go.ChangeAt Go.RowKit Go.Deep
def catA (A B : List (List (List Int))) (t : Nat) : List (List Int) := A.getD t [] ++ B.getD t []
theorem var3j (w : World) (T : TypeId) (z row : Array Value) : Blk (w.alloc (.cells z T)) w.heap.size T z ∧ Blk ((w.alloc (.cells z T)).setRow w.heap.size row) w.heap.size T row ∧ Below w.heap.size w ((w.alloc (.cells z T)).setRow w.heap.size row) ∧ w.heap.size < ((w.alloc (.cells z T)).setRow w.heap.size row).heap.size :=
  ⟨blk_new w T z, (blk_new w T z).row row, below_setRow ((Below.refl _ _).alloc (Nat.le_refl _) _) (Nat.le_refl _) _, by simp⟩
set_option maxRecDepth 100000 in
set_option maxHeartbeats 16000000 in
theorem rjoin11_any (Vo D Hd H L : Int) (s : Sl) (l : List Pg) (w : World) (hs : PgsAt w s l) (hF : ∀ X ∈ l, -9223372036854775808 ≤ X.F ∧ X.F ≤ 9223372036854775807) (hB : ∀ X ∈ l, X.K.length ≤ 900) :
   Calls Try.prog 20 #[.agg (cfgC Vo D Hd H L), s.v] w fun e w' => ∃ t2 k2 v2 : Sl, e = .returned (.tuple #[.agg #[t2.v, k2.v, v2.v], .int .i64 (jnS Vo D L noVw l).1]) ∧ ToldAt w' t2 k2 v2 (jnS Vo D L noVw l).2 ∧ Below w.heap.size w w' := by
  have HS : Hid (PgsAt w s l) := hs
  have hln := hs.len
  have hmx := hs.max
  obtain ⟨la, n, lc⟩ := s
  simp only at hln hmx
  have HLN : Hid (l.length = n) := hln
  have HFF : Hid (∀ X ∈ l, -9223372036854775808 ≤ X.F ∧ X.F ≤ 9223372036854775807) := hF
  have HBB : Hid (∀ X ∈ l, X.K.length ≤ 900) := hB
  obtain ⟨RES, hRES⟩ : ∃ r, r = jnS Vo D L noVw l := ⟨_, rfl⟩
  rw [← hRES]
  have HR0 : Hid (RES = jnS Vo D L noVw (l.drop 0)) := by show _ = _; rw [hRES]; rfl
  clear hs hln hF hB hRES
  have CK := fun (p : PgV) (X : Pg) (wv : World) (hp : PgAt wv p X) hF => rcheck11_any Vo D Hd H L p X wv hp hF
  show Calls Try.prog 20 #[.agg #[.int .i64 Vo, .int .i64 D, .int .i64 Hd, .int .i64 H, .int .i64 L], .slice la n lc] w _
  unfold cfgC at CK
  have X0 := blk_new w 23 #[.int .i64 Vo, .int .i64 D, .int .i64 Hd, .int .i64 H, .int .i64 L]
  have B0 : Below w.heap.size w (w.alloc (.cells #[.int .i64 Vo, .int .i64 D, .int .i64 Hd, .int .i64 H, .int .i64 L] 23)) := (Below.refl _ _).alloc (Nat.le_refl _) _
  generalize hw1 : w.alloc (.cells #[.int .i64 Vo, .int .i64 D, .int .i64 Hd, .int .i64 H, .int .i64 L] 23) = w1 at *
  have X4 := blk_new w1 31 #[.slice none 0 0, .slice none 0 0, .slice none 0 0]
  have B1 : Below w1.heap.size w1 (w1.alloc (.cells #[.slice none 0 0, .slice none 0 0, .slice none 0 0] 31)) := (Below.refl _ _).alloc (Nat.le_refl _) _
  generalize hw2 : w1.alloc (.cells #[.slice none 0 0, .slice none 0 0, .slice none 0 0] 31) = w2 at *
  obtain ⟨ZE, X6, B3, z3⟩ := var3j w2 31 #[.slice none 0 0, .slice none 0 0, .slice none 0 0] #[.slice none 0 0, .slice none 0 0, .slice none 0 0]
  generalize hz1 : w2.alloc (.cells #[.slice none 0 0, .slice none 0 0, .slice none 0 0] 31) = wz at *
  generalize hz2 : wz.setRow w2.heap.size #[.slice none 0 0, .slice none 0 0, .slice none 0 0] = w3 at *
  have h46 : w1.heap.size < w2.heap.size := X4.lt
  have h04 : w.heap.size < w1.heap.size := X0.lt
  replace X0 := (X0.below B1).below B3
  replace X4 := X4.below B3
  have DB := below_then (below_then B0 B1) B3
  clear B0 B1 B3
  obtain ⟨P, hP⟩ : ∃ P : Nat → Prop, P = fun b => b ≠ w1.heap.size ∧ b ≠ w2.heap.size := ⟨_, rfl⟩
  have HP : Hid (∀ b, P b ↔ (b ≠ w1.heap.size ∧ b ≠ w2.heap.size)) := fun b => by rw [hP]
  clear hP
  go_enter Try.func20, Try.ntmps20
  go_upto_region 3 with (refine wpList_store_row rfl 31 _ _ rfl w2.heap.size #[.slice none 0 0, .slice none 0 0, .slice none 0 0] rfl rfl 31 _ ZE Try.infoRV rfl (by simp [Value.oneCell']) ?_; rw [hz2])
  clear hz1 hz2 ZE hw1 hw2 z3
  go_loopg [19] n (fun r s19 wr => ∃ (k : Nat) (X : Vw) (tk ks vs : Sl), k ≤ n ∧ r = n - k ∧ s19 = .int .i64 (k : Int) ∧ Blk wr w2.heap.size 31 #[tk.v, ks.v, vs.v] ∧ IArg w tk.ao tk.n tk.c X.T ∧ PCube P wr ks X.K ∧ PCube P wr vs X.V ∧ JI L X ∧ Hid (RES = jnS Vo D L X (l.drop k)) ∧ Blk wr w.heap.size 23 #[.int .i64 Vo, .int .i64 D, .int .i64 Hd, .int .i64 H, .int .i64 L] ∧ Blk wr w1.heap.size 31 #[.slice none 0 0, .slice none 0 0, .slice none 0 0] ∧ Below w.heap.size w wr)
  case atStart => exact ⟨0, noVw, ⟨none, 0, 0⟩, ⟨none, 0, 0⟩, ⟨none, 0, 0⟩, by omega, by omega, rfl, X6, iarg_nil w, pcube_nil _ _, pcube_nil _ _, ji_none L, HR0, X0, X4, DB⟩
  case round =>
  clear X6 X0 X4 DB HR0
  obtain ⟨k, X, ⟨ta, tn, tz⟩, ⟨ka, kn, kz⟩, ⟨va, vn, vz⟩, hk, rfl, rfl, X6, IT, PK, PV, JX, HR, X0, X4, DW⟩ := hrel
  rename World => wo
  rw [show (#[Sl.v ⟨ta, tn, tz⟩, Sl.v ⟨ka, kn, kz⟩, Sl.v ⟨va, vn, vz⟩] : Array Value) = #[.slice ta tn tz, .slice ka kn kz, .slice va vn vz] from rfl] at X6
  by_cases hlt : k < n
  rotate_left
  · obtain rfl : k = n := by omega
    have hRE : RES = (0, X) := by rw [HR.out, List.drop_eq_nil_of_le (by rw [HLN.out]; exact Nat.le_refl _)]; rfl
    have HRE : Hid (RES = (0, X)) := hRE
    clear hRE
    have T : Tn P P wo (wo.setRow w1.heap.size #[.slice ta tn tz, .slice ka kn kz, .slice va vn vz]) := ⟨by simp, fun b _ hb => ⟨hb, setRow_other _ _ _ _ ((HP.out b).1 hb).1⟩⟩
    have F2 := (PK.turn T (fun _ h => h)).dcube.cube
    have F3 := (PV.turn T (fun _ h => h)).dcube.cube
    have D2 := below_setRow DW (g := w1.heap.size) (by omega) #[.slice ta tn tz, .slice ka kn kz, .slice va vn vz]
    skip
    go_wp2_with (first | (refine wpList_load_row rfl 31 _ rfl w2.heap.size rfl 31 #[.slice ta tn tz, .slice ka kn kz, .slice va vn vz] (0, 0) _ X6 Try.underlying31 rfl Try.infoRV ?_) | (refine wpList_store_row rfl 31 _ _ rfl w1.heap.size #[.slice ta tn tz, .slice ka kn kz, .slice va vn vz] rfl rfl 31 _ X4 Try.infoRV rfl (by simp [Value.oneCell']) ?_))
    refine bodyPost_ret (results_cBt rfl _ _ w1.heap.size #[.slice ta tn tz, .slice ka kn kz, .slice va vn vz] rfl (run_loadVar_row _ w1.heap.size _ _ _ _ _ (X4.row #[.slice ta tn tz, .slice ka kn kz, .slice va vn vz]) Try.underlying31 rfl Try.infoRV)) rfl ?_
    exact ⟨⟨ta, tn, tz⟩, ⟨ka, kn, kz⟩, ⟨va, vn, vz⟩, by rw [HRE.out]; rfl, by rw [HRE.out]; exact ⟨IT.below D2, F2, F3⟩, D2⟩
  have hwo9 : Hid (w.heap.size ≤ wo.heap.size) := DW.size
  have HPO : Hid (PCube P wo ⟨ka, kn, kz⟩ X.K ∧ PCube P wo ⟨va, vn, vz⟩ X.V) := ⟨PK, PV⟩
  obtain ⟨g, o, e, hc⟩ := HS.out.cells (by show 0 < n; omega)
  simp only at e
  subst e
  obtain ⟨Xk, hX⟩ : ∃ X, l[k]? = some X := ⟨_, List.getElem?_eq_getElem (show k < l.length by rw [HLN.out]; omega)⟩
  obtain ⟨p, r0, PA⟩ := hc k Xk hX
  have hFk := HFF.out Xk (List.mem_of_getElem? hX)
  have hBk := HBB.out Xk (List.mem_of_getElem? hX)
  have HDR : Hid (l.drop k = Xk :: l.drop (k + 1)) := drop_cons hX
  replace r0 := pg_range r0 DW
  have CKp := CK p Xk
  clear hc hX
  have pF := PA.f
  have pT := PA.t
  have pK := PA.k
  have pV := PA.v
  have HPA : Hid (∀ wv, Below w.heap.size w wv → PgAt wv p Xk) := fun wv hb => PA.below hb
  clear PA
  obtain ⟨⟨p1, p2, p3⟩, pf, ⟨p4, p5, p6⟩, ⟨p7, p8, p9⟩⟩ := p
  simp only at pF pT pK pV
  rw [show (PgV.cells ⟨⟨p1, p2, p3⟩, pf, ⟨p4, p5, p6⟩, ⟨p7, p8, p9⟩⟩) = #[.slice p1 p2 p3, .int .i64 pf, .slice p4 p5 p6, .slice p7 p8 p9] from rfl] at r0 CKp
  rw [← pF] at hFk
  have HPF : Hid (pf = Xk.F) := pF
  clear pF
  have h6o : w2.heap.size < wo.heap.size := X6.lt
  obtain ⟨Z8, X8, B8, z8⟩ := var3j wo 44 #[.slice none 0 0, .int .i64 0, .slice none 0 0, .slice none 0 0] #[.slice p1 p2 p3, .int .i64 pf, .slice p4 p5 p6, .slice p7 p8 p9]
  generalize hz1 : wo.alloc (.cells #[.slice none 0 0, .int .i64 0, .slice none 0 0, .slice none 0 0] 44) = wz at *
  generalize hz2 : wz.setRow wo.heap.size #[.slice p1 p2 p3, .int .i64 pf, .slice p4 p5 p6, .slice p7 p8 p9] = w4 at *
  replace X6 := X6.below B8
  replace PK := PK.below B8
  replace PV := PV.below B8
  replace X0 := X0.below B8
  replace X4 := X4.below B8
  replace DW := below_then DW B8
  have BO := B8
  clear B8
  go_upto_region 5 with (first | (refine wpList_load_mid rfl 44 _ rfl g (o + k * 4) rfl [.slice p1 p2 p3, .int .i64 pf, .slice p4 p5 p6, .slice p7 p8 p9] _ r0 Try.underlying44 rfl (by exact Try.infoTg) ?_) | (refine wpList_store_row rfl 44 _ _ rfl wo.heap.size #[.slice p1 p2 p3, .int .i64 pf, .slice p4 p5 p6, .slice p7 p8 p9] rfl rfl 44 _ Z8 Try.infoTg rfl (by simp [Value.oneCell']) ?_; rw [hz2]))
  clear hz1 hz2 Z8 r0
  have a0 : w4.cell? ⟨w.heap.size, 0, none⟩ = some (.int .i64 Vo) := X0.cell 0 rfl
  have a1 : w4.cell? ⟨w.heap.size, 1, none⟩ = some (.int .i64 D) := X0.cell 1 rfl
  have a2 : w4.cell? ⟨w.heap.size, 2, none⟩ = some (.int .i64 Hd) := X0.cell 2 rfl
  have a3 : w4.cell? ⟨w.heap.size, 3, none⟩ = some (.int .i64 H) := X0.cell 3 rfl
  have a4 : w4.cell? ⟨w.heap.size, 4, none⟩ = some (.int .i64 L) := X0.cell 4 rfl
  go_wp2_with (refine wpList_load_row rfl 44 _ rfl wo.heap.size rfl 44 #[.slice p1 p2 p3, .int .i64 pf, .slice p4 p5 p6, .slice p7 p8 p9] (0, 0) _ X8 Try.underlying44 rfl Try.infoTg ?_)
  refine (CKp _ (HPA.out _ DW) (by rw [← HPF.out]; exact hFk)).mono ?_
  rintro e w5 ⟨rfl, B5⟩
  replace X6 := X6.below B5
  replace PK := PK.below B5
  replace PV := PV.below B5
  replace X0 := X0.below B5
  replace X4 := X4.below B5
  replace X8 := X8.below B5
  replace DW := below_then DW B5
  replace BO := below_then BO B5
  have HBO : Hid (Below wo.heap.size wo w5) := BO
  clear BO
  clear B5 CKp a0 a1 a2 a3 a4
  by_cases hck : ckN Vo D L Xk = 0
  rotate_left
  · have hRE : RES = (ckN Vo D L Xk, noVw) := by rw [HR.out, HDR.out, jn_bad hck]
    have HRE : Hid (RES = (ckN Vo D L Xk, noVw)) := hRE
    clear hRE HDR HR
    generalize ckN Vo D L Xk = q at *
    have hq1 : (q == 0) = false := by simpa using hck
    have hq2 : (q != 0) = true := by simp [bne, hq1]
    clear PK PV X6 X8 X0
    have D2 := below_setRow DW (g := w1.heap.size) (by omega) #[.slice none 0 0, .slice none 0 0, .slice none 0 0]
    go_wp2_with (refine wpList_store_row rfl 31 _ _ rfl w1.heap.size #[.slice none 0 0, .slice none 0 0, .slice none 0 0] rfl rfl 31 _ X4 Try.infoRV rfl (by simp [Value.oneCell']) ?_)
    refine bodyPost_ret (results_cBt rfl _ _ w1.heap.size #[.slice none 0 0, .slice none 0 0, .slice none 0 0] rfl (run_loadVar_row _ w1.heap.size _ _ _ _ _ (X4.row #[.slice none 0 0, .slice none 0 0, .slice none 0 0]) Try.underlying31 rfl Try.infoRV)) rfl ?_
    exact ⟨⟨none, 0, 0⟩, ⟨none, 0, 0⟩, ⟨none, 0, 0⟩, by rw [HRE.out]; rfl, by rw [HRE.out]; exact ⟨iarg_nil _, (pcube_nil P _).dcube.cube, (pcube_nil P _).dcube.cube⟩, D2⟩
  rw [hck]
  obtain ⟨e1, e2, e3, e4, e5, e6⟩ := ck_zero hck
  obtain ⟨f1, f2, f3, f4⟩ := plB_true e1
  have hTl : Xk.T.length = p2 := pT.row.len
  have hKl : Xk.K.length = p5 := pK.len
  have hVl : Xk.V.length = p8 := pV.len
  have hXl : X.T.length = tn := IT.row.len
  rw [hTl, ← HPF.out] at f3 f4
  rw [← HPF.out] at f1
  rw [hTl] at f2
  have h85 : p8 = p5 := by omega
  have H85 : Hid (p8 = p5) := h85
  clear h85
  obtain ⟨F, hFF⟩ : ∃ F : Nat, pf = (F : Int) := ⟨pf.toNat, by omega⟩
  subst hFF
  have HFN : Hid (Xk.F.toNat = F) := by show _ = _; rw [← HPF.out]; exact Int.toNat_natCast F
  have hFlt : F < p2 := by omega
  have HOFF : Hid (Xk.T.take F ≠ X.T → RES = (8, noVw)) := fun h => by rw [HR.out, HDR.out, jn_off hck (by rw [HFN.out]; exact h)]
  have HON : Hid (Xk.T.take F = X.T → RES = jnS Vo D L ⟨Xk.T, catC X.K Xk.K, catC X.V Xk.V⟩ (l.drop (k + 1)) ∧ JI L ⟨Xk.T, catC X.K Xk.K, catC X.V Xk.V⟩) := fun h => ⟨by rw [HR.out, HDR.out, jn_on hck (by rw [HFN.out]; exact h)], ji_step JX hck (by rw [HFN.out]; exact h)⟩
  have HTL : Hid (Xk.T.length = p2) := hTl
  have HKL : Hid (Xk.K.length = p5) := hKl
  have HVL : Hid (Xk.V.length = p8) := hVl
  have HXL : Hid (X.T.length = tn) := hXl
  have HKK : Hid (∀ R ∈ Xk.K, (R.length : Int) = (p2 : Int) - F) := fun R hR => by have := (rfB_spec e5 R hR).1; rw [hTl, ← HPF.out] at this; exact this
  have HVV : Hid (∀ R ∈ Xk.V, (R.length : Int) = (p2 : Int) - F) := fun R hR => by have := (rfB_spec e6 R hR).1; rw [hTl, ← HPF.out] at this; exact this
  have HJX : Hid (JI L X) := JX
  have hn9 : tn ≤ 128 := by have := JX.t; omega
  have hp9 : p5 ≤ 900 := by omega
  clear e1 e2 e3 e4 e5 e6 f1 f4 hck JX HR HDR hTl hKl hVl hXl hBk hFk
  have b0 : w5.cell? ⟨w2.heap.size, 0, none⟩ = some (.slice ta tn tz) := X6.cell 0 rfl
  have c1 : w5.cell? ⟨wo.heap.size, 1, none⟩ = some (.int .i64 (F : Int)) := X8.cell 1 rfl
  by_cases hFt : F = tn
  rotate_left
  · have hne : ((F : Int) == (tn : Int)) = false := by simp; omega
    have hne2 : decide ((F : Int) = (tn : Int)) = false := decide_eq_false (by omega)
    have hNT : Xk.T.take F ≠ X.T := fun h => by have := take_eq_len h (by rw [HTL.out]; omega); rw [HXL.out] at this; omega
    have HRE : Hid (RES = (8, noVw)) := HOFF.out hNT
    clear hNT HOFF HON PK PV hFt
    go_upto_region 10 with fail
    clear b0 c1
    go_loopg [10, 11] 1 (fun r s10 s11 wq => r = 1 ∧ s10 = .bool false ∧ wq = w5)
    case atStart => exact ⟨rfl, rfl, rfl⟩
    case round =>
      obtain ⟨rfl, rfl, hwr⟩ := hrel
      obtain rfl := hwr.symm
      have D2 := below_setRow DW (g := w1.heap.size) (by omega) #[.slice none 0 0, .slice none 0 0, .slice none 0 0]
      go_wp2_with (refine wpList_store_row rfl 31 _ _ rfl w1.heap.size #[.slice none 0 0, .slice none 0 0, .slice none 0 0] rfl rfl 31 _ X4 Try.infoRV rfl (by simp [Value.oneCell']) ?_)
      refine bodyPost_ret (results_cBt rfl _ _ w1.heap.size #[.slice none 0 0, .slice none 0 0, .slice none 0 0] rfl (run_loadVar_row _ w1.heap.size _ _ _ _ _ (X4.row #[.slice none 0 0, .slice none 0 0, .slice none 0 0]) Try.underlying31 rfl Try.infoRV)) rfl ?_
      exact ⟨⟨none, 0, 0⟩, ⟨none, 0, 0⟩, ⟨none, 0, 0⟩, by rw [HRE.out]; rfl, by rw [HRE.out]; exact ⟨iarg_nil _, (pcube_nil P _).dcube.cube, (pcube_nil P _).dcube.cube⟩, D2⟩
  subst hFt
  have heq : ((F : Int) == (F : Int)) = true := by simp
  have heq2 : decide ((F : Int) = (F : Int)) = true := decide_eq_true rfl
  go_upto_region 10 with fail
  clear b0 c1 heq heq2
  have HX5 : Hid (∀ wv, Below w5.heap.size w5 wv → Blk wv wo.heap.size 44 #[.slice p1 p2 p3, .int .i64 (F : Int), .slice p4 p5 p6, .slice p7 p8 p9] ∧ Blk wv w2.heap.size 31 #[.slice ta F tz, .slice ka kn kz, .slice va vn vz] ∧ Blk wv w.heap.size 23 #[.int .i64 Vo, .int .i64 D, .int .i64 Hd, .int .i64 H, .int .i64 L] ∧ Blk wv w1.heap.size 31 #[.slice none 0 0, .slice none 0 0, .slice none 0 0] ∧ PCube P wv ⟨ka, kn, kz⟩ X.K ∧ PCube P wv ⟨va, vn, vz⟩ X.V ∧ Below w.heap.size w wv) := fun wv hb => ⟨X8.below hb, X6.below hb, X0.below hb, X4.below hb, PK.below hb, PV.below hb, below_then DW hb⟩
  clear X8 X6 X0 X4 PK PV DW
  have hz8 : wo.heap.size < w5.heap.size := (HX5.out _ (Below.refl _ _)).1.lt
  go_loopg [10, 11] (F + 1) (fun r s10 s11 wq => ∃ (i : Nat) (b : Bool), i ≤ F ∧ r = F + 1 - i ∧ s10 = .bool b ∧ s11 = .int .i64 (i : Int) ∧ Below w5.heap.size w5 wq ∧ Hid (b = true → Xk.T.take i = X.T.take i) ∧ Hid (b = false → Xk.T.take F ≠ X.T))
  case atStart => exact ⟨0, true, by omega, by omega, rfl, rfl, Below.refl _ _, (fun _ => by rw [List.take_zero, List.take_zero]), (fun h => by cases h)⟩
  case round =>
  obtain ⟨i, b, hi, rfl, rfl, rfl, DQ, HA, HN⟩ := hrel
  rename World => wq
  cases b with
  | false =>
    have HRE : Hid (RES = (8, noVw)) := HOFF.out (HN.out rfl)
    obtain ⟨X8, X6, X0, X4, -, -, DW⟩ := HX5.out _ DQ
    clear HOFF HON HX5 X8 X6 X0 HA HN
    have D2 := below_setRow DW (g := w1.heap.size) (by omega) #[.slice none 0 0, .slice none 0 0, .slice none 0 0]
    go_wp2_with (refine wpList_store_row rfl 31 _ _ rfl w1.heap.size #[.slice none 0 0, .slice none 0 0, .slice none 0 0] rfl rfl 31 _ X4 Try.infoRV rfl (by simp [Value.oneCell']) ?_)
    refine bodyPost_ret (results_cBt rfl _ _ w1.heap.size #[.slice none 0 0, .slice none 0 0, .slice none 0 0] rfl (run_loadVar_row _ w1.heap.size _ _ _ _ _ (X4.row #[.slice none 0 0, .slice none 0 0, .slice none 0 0]) Try.underlying31 rfl Try.infoRV)) rfl ?_
    exact ⟨⟨none, 0, 0⟩, ⟨none, 0, 0⟩, ⟨none, 0, 0⟩, by rw [HRE.out]; rfl, by rw [HRE.out]; exact ⟨iarg_nil _, (pcube_nil P _).dcube.cube, (pcube_nil P _).dcube.cube⟩, D2⟩
  | true =>
    by_cases hlt2 : i < F
    · have hia : (i : Int) < (F : Int) := by omega
      have hia2 : (i : Int) < (p2 : Int) := by omega
      obtain ⟨tb, to2, rfl, hc1⟩ := IT.row.cells (by show 0 < F; omega)
      obtain ⟨qb, qo, e9, hc2⟩ := pT.row.cells (by omega)
      subst e9
      have d1 := hc1 i (by omega)
      have d2 := hc2 i (by omega)
      obtain ⟨X8, X6, X0, X4, -, -, DW⟩ := HX5.out _ DQ
      replace d1 := cell_keep d1 DW
      replace d2 := cell_keep d2 DW
      have HY : Hid (el Xk.T i = el X.T i → Xk.T.take (i + 1) = X.T.take (i + 1)) := fun e => take_next (by rw [HTL.out]; omega) (by rw [HXL.out]; omega) (HA.out rfl) e
      have HY2 : Hid (el Xk.T i ≠ el X.T i → Xk.T.take F ≠ X.T) := fun e => take_off hlt2 e
      generalize el Xk.T i = x at *
      generalize el X.T i = y at *
      clear hc1 hc2 HA HN X0 X4
      have c1 : wq.cell? ⟨wo.heap.size, 1, none⟩ = some (.int .i64 (F : Int)) := X8.cell 1 rfl
      go_upto_region 12 with fail
      clear c1
      have BD : Below wq.heap.size wq wq.drew := (Below.refl _ wq).drew
      replace X8 := X8.below BD
      replace X6 := X6.below BD
      replace d1 := cell_keep d1 BD
      replace d2 := cell_keep d2 BD
      replace DQ := below_then DQ BD
      clear BD DW
      refine wp_region_held_drew (S := fun w' => Blk w' wo.heap.size 44 #[.slice (some ⟨qb, qo, none⟩) p2 p3, .int .i64 (F : Int), .slice p4 p5 p6, .slice p7 p8 p9] ∧ Blk w' w2.heap.size 31 #[.slice (some ⟨tb, to2, none⟩) F tz, .slice ka kn kz, .slice va vn vz] ∧ w'.cell? ⟨tb, to2 + i, none⟩ = some (.int .i64 y) ∧ w'.cell? ⟨qb, qo + i, none⟩ = some (.int .i64 x)) (by kernel_rfl) (⟨X8, X6, d1, d2⟩) (fun hHeld => ?_)
      generalize hA : wq.drew = wA at *
      clear hA
      refine wpAnyH_take (i := 0) (v := (.pointer (some ⟨wo.heap.size, 0, none⟩))) rfl (by kernel_rfl) (by kernel_rfl) (by kernel_rfl) (fun _ _ _ h => h) (Or.inl ⟨by rfl, ?_⟩) (by assumption) ?_
      · intro w' hSw
        go_simp
      simp only [List.getElem_toArray, List.getElem_cons_zero, Act.put, List.setIfInBounds_toArray, List.set_cons_zero, List.set_cons_succ]
      refine wpAnyH_take (i := 1) (v := (.slice (some ⟨qb, qo, none⟩) p2 p3)) rfl (by kernel_rfl) (by kernel_rfl) (by kernel_rfl) (fun _ _ _ h => h) (Or.inl ⟨by rfl, ?_⟩) (by assumption) ?_
      · intro w' hSw
        have y0 : w'.cell? ⟨wo.heap.size, 0, none⟩ = some (.slice (some ⟨qb, qo, none⟩) p2 p3) := hSw.1.cell 0 rfl
        go_simp
      simp only [List.getElem_toArray, List.getElem_cons_succ, List.getElem_cons_zero, Act.put, List.setIfInBounds_toArray, List.set_cons_zero, List.set_cons_succ]
      refine wpAnyH_take (i := 2) (v := (.int .i64 (i : Int))) rfl (by kernel_rfl) (by kernel_rfl) (by kernel_rfl) (fun _ _ _ h => h) (Or.inl ⟨by rfl, ?_⟩) (by assumption) ?_
      · intro w' hSw
        go_simp
      simp only [List.getElem_toArray, List.getElem_cons_succ, List.getElem_cons_zero, Act.put, List.setIfInBounds_toArray, List.set_cons_zero, List.set_cons_succ]
      refine wpAnyH_take (i := 3) (v := (.pointer (some ⟨qb, qo + i, none⟩))) rfl (by kernel_rfl) (by kernel_rfl) (by kernel_rfl) (fun _ _ _ h => h) (Or.inl ⟨by rfl, ?_⟩) (by assumption) ?_
      · intro w' hSw
        go_simp
      simp only [List.getElem_toArray, List.getElem_cons_succ, List.getElem_cons_zero, Act.put, List.setIfInBounds_toArray, List.set_cons_zero, List.set_cons_succ]
      refine wpAnyH_take (i := 4) (v := (.int .i64 x)) rfl (by kernel_rfl) (by kernel_rfl) (by kernel_rfl) (fun _ _ _ h => h) (Or.inl ⟨by rfl, ?_⟩) (by assumption) ?_
      · intro w' hSw
        have y0 := hSw.2.2.2
        go_simp
      simp only [List.getElem_toArray, List.getElem_cons_succ, List.getElem_cons_zero, Act.put, List.setIfInBounds_toArray, List.set_cons_zero, List.set_cons_succ]
      refine wpAnyH_take (i := 5) (v := (.pointer (some ⟨w2.heap.size, 0, none⟩))) rfl (by kernel_rfl) (by kernel_rfl) (by kernel_rfl) (fun _ _ _ h => h) (Or.inl ⟨by rfl, ?_⟩) (by assumption) ?_
      · intro w' hSw
        go_simp
      simp only [List.getElem_toArray, List.getElem_cons_succ, List.getElem_cons_zero, Act.put, List.setIfInBounds_toArray, List.set_cons_zero, List.set_cons_succ]
      refine wpAnyH_take (i := 6) (v := (.slice (some ⟨tb, to2, none⟩) F tz)) rfl (by kernel_rfl) (by kernel_rfl) (by kernel_rfl) (fun _ _ _ h => h) (Or.inl ⟨by rfl, ?_⟩) (by assumption) ?_
      · intro w' hSw
        have y0 : w'.cell? ⟨w2.heap.size, 0, none⟩ = some (.slice (some ⟨tb, to2, none⟩) F tz) := hSw.2.1.cell 0 rfl
        go_simp
      simp only [List.getElem_toArray, List.getElem_cons_succ, List.getElem_cons_zero, Act.put, List.setIfInBounds_toArray, List.set_cons_zero, List.set_cons_succ]
      refine wpAnyH_take (i := 7) (v := (.int .i64 (i : Int))) rfl (by kernel_rfl) (by kernel_rfl) (by kernel_rfl) (fun _ _ _ h => h) (Or.inl ⟨by rfl, ?_⟩) (by assumption) ?_
      · intro w' hSw
        go_simp
      simp only [List.getElem_toArray, List.getElem_cons_succ, List.getElem_cons_zero, Act.put, List.setIfInBounds_toArray, List.set_cons_zero, List.set_cons_succ]
      refine wpAnyH_take (i := 8) (v := (.pointer (some ⟨tb, to2 + i, none⟩))) rfl (by kernel_rfl) (by kernel_rfl) (by kernel_rfl) (fun _ _ _ h => h) (Or.inl ⟨by rfl, ?_⟩) (by assumption) ?_
      · intro w' hSw
        go_simp
      simp only [List.getElem_toArray, List.getElem_cons_succ, List.getElem_cons_zero, Act.put, List.setIfInBounds_toArray, List.set_cons_zero, List.set_cons_succ]
      refine wpAnyH_take (i := 9) (v := (.int .i64 y)) rfl (by kernel_rfl) (by kernel_rfl) (by kernel_rfl) (fun _ _ _ h => h) (Or.inl ⟨by rfl, ?_⟩) (by assumption) ?_
      · intro w' hSw
        have y0 := hSw.2.2.1
        go_simp
      simp only [List.getElem_toArray, List.getElem_cons_succ, List.getElem_cons_zero, Act.put, List.setIfInBounds_toArray, List.set_cons_zero, List.set_cons_succ]
      by_cases hxy : x = y
      · have HZ := HY.out hxy
        have hx1 : (x == y) = true := by simpa using hxy
        have hx2 : decide (x = y) = true := decide_eq_true hxy
        clear hxy
        refine wpAnyH_take (i := 10) (v := (.bool true)) rfl (by kernel_rfl) (by kernel_rfl) (by kernel_rfl) (fun _ _ _ h => h) (Or.inl ⟨by rfl, ?_⟩) (by assumption) ?_
        · intro w' hSw
          go_simp
        simp only [List.getElem_toArray, List.getElem_cons_succ, List.getElem_cons_zero, Act.put, List.setIfInBounds_toArray, List.set_cons_zero, List.set_cons_succ]
        refine wpAnyH_take (i := 11) (v := (.bool true)) rfl (by kernel_rfl) (by kernel_rfl) (by kernel_rfl) (fun _ _ _ h => h) (Or.inl ⟨by rfl, ?_⟩) (by assumption) ?_
        · intro w' hSw
          go_simp
        simp only [List.getElem_toArray, List.getElem_cons_succ, List.getElem_cons_zero, Act.put, List.setIfInBounds_toArray, List.set_cons_zero, List.set_cons_succ]
        refine wpAnyH_done (by kernel_rfl) ?_ _
        clear hHeld
        go_wp2_with fail
        go_roundg (F + 1 - (i + 1))
        case measure => omega
        case rel => exact ⟨i + 1, true, by omega, rfl, rfl, by go_num, DQ, (fun _ => HZ), (fun h => by cases h)⟩
      · have HZ := HY2.out hxy
        have hx1 : (x == y) = false := by simpa using hxy
        have hx2 : decide (x = y) = false := decide_eq_false hxy
        clear hxy
        refine wpAnyH_take (i := 10) (v := (.bool false)) rfl (by kernel_rfl) (by kernel_rfl) (by kernel_rfl) (fun _ _ _ h => h) (Or.inl ⟨by rfl, ?_⟩) (by assumption) ?_
        · intro w' hSw
          go_simp
        simp only [List.getElem_toArray, List.getElem_cons_succ, List.getElem_cons_zero, Act.put, List.setIfInBounds_toArray, List.set_cons_zero, List.set_cons_succ]
        refine wpAnyH_take (i := 11) (v := (.bool false)) rfl (by kernel_rfl) (by kernel_rfl) (by kernel_rfl) (fun _ _ _ h => h) (Or.inl ⟨by rfl, ?_⟩) (by assumption) ?_
        · intro w' hSw
          go_simp
        simp only [List.getElem_toArray, List.getElem_cons_succ, List.getElem_cons_zero, Act.put, List.setIfInBounds_toArray, List.set_cons_zero, List.set_cons_succ]
        refine wpAnyH_done (by kernel_rfl) ?_ _
        clear hHeld
        go_wp2_with fail
        go_roundg (F + 1 - (i + 1))
        case measure => omega
        case rel => exact ⟨i + 1, false, by omega, rfl, rfl, by go_num, DQ, (fun h => by cases h), (fun _ => HZ)⟩
    · obtain rfl : i = F := by omega
      have hTE : Xk.T.take i = X.T := by rw [HA.out rfl, List.take_of_length_le (by rw [HXL.out]; exact Nat.le_refl _)]
      obtain ⟨hRE, hJN⟩ := HON.out hTE
      have HRE : Hid (RES = jnS Vo D L ⟨Xk.T, catC X.K Xk.K, catC X.V Xk.V⟩ (l.drop (k + 1))) := hRE
      have HJN : Hid (JI L ⟨Xk.T, catC X.K Xk.K, catC X.V Xk.V⟩) := hJN
      clear HOFF HON HA HN hTE hRE hJN hlt2
      obtain ⟨X8, X6, X0, X4, PK, PV, DW⟩ := HX5.out _ DQ
      clear HX5
      have b0 : wq.cell? ⟨wo.heap.size, 0, none⟩ = some (.slice p1 p2 p3) := X8.cell 0 rfl
      have c1 : wq.cell? ⟨wo.heap.size, 1, none⟩ = some (.int .i64 (i : Int)) := X8.cell 1 rfl
      obtain ⟨ZN, XN, BN, zN⟩ := var3j wq 31 #[.slice none 0 0, .slice none 0 0, .slice none 0 0] #[.slice p1 p2 p3, .slice none 0 0, .slice none 0 0]
      generalize hz1 : wq.alloc (.cells #[.slice none 0 0, .slice none 0 0, .slice none 0 0] 31) = wz at *
      generalize hz2 : wz.setRow wq.heap.size #[.slice p1 p2 p3, .slice none 0 0, .slice none 0 0] = w6 at *
      have b2 : w6.cell? ⟨wo.heap.size, 2, none⟩ = some (.slice p4 p5 p6) := (X8.below BN).cell 2 rfl
      go_upto_region 17 with (refine wpList_store_row rfl 31 _ _ rfl wq.heap.size #[.slice p1 p2 p3, .slice none 0 0, .slice none 0 0] rfl rfl 31 _ ZN Try.infoRV rfl (by simp [Value.oneCell']) ?_; rw [hz2])
      clear hz1 hz2 ZN b0 b2 zN c1
      have HXB : Hid (∀ wv, Below wq.heap.size wq wv → Blk wv wo.heap.size 44 #[.slice p1 p2 p3, .int .i64 (i : Int), .slice p4 p5 p6, .slice p7 p8 p9] ∧ Blk wv w2.heap.size 31 #[.slice ta i tz, .slice ka kn kz, .slice va vn vz] ∧ Blk wv w.heap.size 23 #[.int .i64 Vo, .int .i64 D, .int .i64 Hd, .int .i64 H, .int .i64 L] ∧ Blk wv w1.heap.size 31 #[.slice none 0 0, .slice none 0 0, .slice none 0 0] ∧ Below w.heap.size w wv ∧ PCube P wv ⟨ka, kn, kz⟩ X.K ∧ PCube P wv ⟨va, vn, vz⟩ X.V) := fun wv hb => ⟨X8.below hb, X6.below hb, X0.below hb, X4.below hb, below_then DW hb, PK.below hb, PV.below hb⟩
      have HBQ : Hid (Below wo.heap.size wo wq) := below_then HBO.out DQ
      obtain ⟨q, hq⟩ : ∃ q : Nat → Prop, q = fun b => b + 1 < wq.heap.size → P b := ⟨_, rfl⟩
      have HQ : Hid (∀ b, q b ↔ (b + 1 < wq.heap.size → P b)) := fun b => by rw [hq]
      have hoq : wo.heap.size < wq.heap.size := X8.lt
      clear X8 X6 X0 X4 PK PV DW DQ hq
      have GS : GoV q wq w6 (.slice p1 p2 p3) (.slice none 0 0) (.slice none 0 0) (.slice none 0 0) (.slice none 0 0) ((List.range 0).map (catA X.K Xk.K)) ((List.range 0).map (catA X.V Xk.V)) := ⟨XN, OCu.nil _ _ _, OCu.nil _ _ _, (fun g e => (no_ownJ g e).elim), BN⟩
      clear XN BN
      obtain rfl : p8 = p5 := H85.out
      go_loopg [65] p8 (fun r s65 wx => ∃ (j : Nat) (u1 u2 : Option Addr) (z1 z2 : Nat), j ≤ p8 ∧ r = p8 - j ∧ s65 = .int .i64 (j : Int) ∧ GoV q wq wx (.slice p1 p2 p3) (.slice u1 j z1) (.slice u2 j z2) (.slice none 0 0) (.slice none 0 0) ((List.range j).map (catA X.K Xk.K)) ((List.range j).map (catA X.V Xk.V)))
      case atStart => exact ⟨0, none, none, 0, 0, by omega, by omega, rfl, GS⟩
      case round =>
      clear GS
      obtain ⟨j, u1, u2, z1, z2, hj, rfl, rfl, GS⟩ := hrel
      rename World => wx
      by_cases hlt3 : j < p8
      rotate_left
      · obtain rfl : j = p8 := by omega
        obtain ⟨X8, X6, X0, X4, DW, -, -⟩ := HXB.out _ GS.kp
        have XN := GS.blk
        skip
        have hPP : ∀ b, offO q (.slice u1 j z1) (.slice u2 j z2) (.slice none 0 0) (.slice none 0 0) (.slice none 0 0) wq.heap.size b → P b := fun b hb => by
          by_cases h9 : b + 1 < wq.heap.size
          · exact (HQ.out b).1 hb.2.2.2.2.2.2.2 h9
          · exact (HP.out b).2 ⟨by omega, by omega⟩
        have hBP : ∀ b, wq.heap.size + 1 ≤ b → P b := fun b hb => (HP.out b).2 ⟨by omega, by omega⟩
        obtain ⟨⟨q1, q2, q3⟩, e1, e2, E1⟩ := GS.c1.pcube (P := P) (by simp; omega) hPP hBP
        obtain ⟨⟨q4, q5, q6⟩, e4, e5, E2⟩ := GS.c2.pcube (P := P) (by simp; omega) hPP hBP
        unfold Sl.v at e1 e4
        simp only [Value.slice.injEq] at e1 e4
        obtain ⟨rfl, rfl, rfl⟩ := e1
        obtain ⟨rfl, rfl, rfl⟩ := e4
        clear e2 e5 hPP hBP
        rw [show (List.range j).map (catA X.K Xk.K) = catC X.K Xk.K from by unfold catC; rw [HKL.out]; rfl] at E1
        rw [show (List.range j).map (catA X.V Xk.V) = catC X.V Xk.V from by unfold catC; rw [HVL.out]; rfl] at E2
        obtain ⟨NR, hNR⟩ : ∃ r : Array Value, r = #[.slice p1 p2 p3, .slice u1 j z1, .slice u2 j z2] := ⟨_, rfl⟩
        have TN : Tn P P wx (wx.setRow w2.heap.size #[.slice p1 p2 p3, .slice u1 j z1, .slice u2 j z2]) := ⟨by simp, fun b _ hb => ⟨hb, setRow_other _ _ _ _ ((HP.out b).1 hb).2⟩⟩
        have F1 := E1.turn TN (fun _ h => h)
        have F2 := E2.turn TN (fun _ h => h)
        have Y6 := X6.row #[.slice p1 p2 p3, .slice u1 j z1, .slice u2 j z2]
        have so : ∀ b, b ≠ w2.heap.size → (wx.setRow w2.heap.size #[.slice p1 p2 p3, .slice u1 j z1, .slice u2 j z2]).heap[b]? = wx.heap[b]? := fun b hb => setRow_other _ _ _ _ hb
        have Y0 := X0.of_block (so _ (by omega))
        have Y4 := X4.of_block (so _ (by omega))
        have D2 := below_setRow DW (g := w2.heap.size) (by omega) #[.slice p1 p2 p3, .slice u1 j z1, .slice u2 j z2]
        clear hNR TN E1 E2 so X8 X0 X4 GS DW
        go_wp2_with (first | (refine wpList_load_row rfl 31 _ rfl wq.heap.size rfl 31 #[.slice p1 p2 p3, .slice u1 j z1, .slice u2 j z2] (0, 0) _ XN Try.underlying31 rfl Try.infoRV ?_) | (refine wpList_store_row rfl 31 _ _ rfl w2.heap.size #[.slice p1 p2 p3, .slice u1 j z1, .slice u2 j z2] rfl rfl 31 _ X6 Try.infoRV rfl (by simp [Value.oneCell']) ?_))
        go_roundg (n - (k + 1))
        case measure => omega
        case rel => exact ⟨k + 1, ⟨Xk.T, catC X.K Xk.K, catC X.V Xk.V⟩, ⟨p1, p2, p3⟩, ⟨u1, j, z1⟩, ⟨u2, j, z2⟩, by omega, rfl, by go_num, Y6, pT, F1, F2, HJN.out, HRE, Y0, Y4, D2⟩
      obtain ⟨v1, hv1⟩ : ∃ v, v = Value.slice u1 j z1 := ⟨_, rfl⟩
      obtain ⟨v2, hv2⟩ : ∃ v, v = Value.slice u2 j z2 := ⟨_, rfl⟩
      rw [← hv1, ← hv2] at GS
      have HV1 : Hid (v1 = Value.slice u1 j z1) := hv1
      have HV2 : Hid (v2 = Value.slice u2 j z2) := hv2
      clear hv1 hv2
      have zx := GS.blk.lt
      have BA : Below wx.heap.size wx (wx.alloc (.cells #[] 72)) := (Below.refl _ _).alloc (Nat.le_refl _) _
      have O4 := rows_madeJ wx (wq.heap.size + 1) (by omega)
      have T0 : Tn (offO q v1 v2 (.slice none 0 0) (.slice none 0 0) (.slice none 0 0) wq.heap.size) (offO q v1 v2 (.slice none 0 0) (.slice (some ⟨wx.heap.size, 0, none⟩) 0 0) (.slice none 0 0) wq.heap.size) wx (wx.alloc (.cells #[] 72)) := (Tn.new4 wx (Nat.le_refl _)).trans (Tn.below BA)
      have za : wx.heap.size < (wx.alloc (.cells #[] 72)).heap.size := by simp
      generalize hwa : wx.alloc (.cells #[] 72) = wa at *
      have BA2 : Below wa.heap.size wa (wa.alloc (.cells #[] 72)) := (Below.refl _ _).alloc (Nat.le_refl _) _
      have O5 := rows_madeJ wa (wq.heap.size + 1) (by omega)
      have T1 : Tn (offO q v1 v2 (.slice none 0 0) (.slice (some ⟨wx.heap.size, 0, none⟩) 0 0) (.slice none 0 0) wq.heap.size) (offO q v1 v2 (.slice none 0 0) (.slice (some ⟨wx.heap.size, 0, none⟩) 0 0) (.slice (some ⟨wa.heap.size, 0, none⟩) 0 0) wq.heap.size) wa (wa.alloc (.cells #[] 72)) := (Tn.new5 wa (Nat.le_refl _)).trans (Tn.below BA2)
      have zb : wa.heap.size < (wa.alloc (.cells #[] 72)).heap.size := by simp
      generalize hwb : wa.alloc (.cells #[] 72) = wb at *
      replace O4 := owns_below O4 BA2
      have BAB := below_then BA BA2
      have GA := GS.side (T0.trans T1) (fun b hb _ => BAB.block b hb) (BAB.mono (by have := GS.kp.size; omega))
      clear T0 T1 GS BA BA2 BAB
      have b1 : wb.cell? ⟨w2.heap.size, 1, none⟩ = some (.slice ka kn kz) := (HXB.out _ GA.kp).2.1.cell 1 rfl
      have b2 : wb.cell? ⟨w2.heap.size, 2, none⟩ = some (.slice va vn vz) := (HXB.out _ GA.kp).2.1.cell 2 rfl
      have h45 : ∀ g, (Value.slice (some ⟨wx.heap.size, 0, none⟩) 0 0).ownBlock = some g → (Value.slice (some ⟨wa.heap.size, 0, none⟩) 0 0).ownBlock ≠ some g := fun g e e2 => by simp [Value.ownBlock] at e e2; omega
      go_upto_if 74 with fail
      clear hwa hwb
      generalize hga : wx.heap.size = ga at *
      generalize hgb : wa.heap.size = gb at *
      have hVK : vn = kn := by have h1 := (HXB.out _ GA.kp).2.2.2.2.2.1.len; have h2 := (HXB.out _ GA.kp).2.2.2.2.2.2.len; have := HJX.out.kv; simp only at h1 h2; omega
      have hKn : X.K.length = kn := (HXB.out _ GA.kp).2.2.2.2.2.1.len
      have HKN : Hid (X.K.length = kn) := hKn
      have HVN : Hid (X.V.length = kn) := by show _ = _; rw [HJX.out.kv]; exact hKn
      clear hKn
      go_cut [14, 15] from 74 to 113 (fun s14 s15 wc => ∃ (ya yb : Option Addr) (yc yd n4 n5 : Nat) (us ws : List Value), s14 = .slice ya n4 yc ∧ s15 = .slice yb n5 yd ∧ n4 = (X.K.getD j []).length ∧ n5 = (X.V.getD j []).length ∧ wc.ownsRow (wq.heap.size + 1) 72 1 (.slice ya n4 yc) n4 us ∧ wc.ownsRow (wq.heap.size + 1) 72 1 (.slice yb n5 yd) n5 ws ∧ HRows (offO q v1 v2 (.slice none 0 0) (.slice ya n4 yc) (.slice yb n5 yd) wq.heap.size) wc us (X.K.getD j []) ∧ HRows (offO q v1 v2 (.slice none 0 0) (.slice ya n4 yc) (.slice yb n5 yd) wq.heap.size) wc ws (X.V.getD j []) ∧ GoV q wq wc (.slice p1 p2 p3) v1 v2 (.slice ya n4 yc) (.slice yb n5 yd) ((List.range j).map (catA X.K Xk.K)) ((List.range j).map (catA X.V Xk.V)) ∧ ∀ g, (Value.slice ya n4 yc).ownBlock = some g → (Value.slice yb n5 yd).ownBlock ≠ some g)
      case first =>
        by_cases hqj : j < kn
        · have hqi : (j : Int) < (kn : Int) := by omega
          have hqi2 : (j : Int) < (vn : Int) := by omega
          obtain ⟨bK, oK, eK, -, hcK⟩ := HPO.out.1.cells (by show 0 < kn; omega)
          simp only at eK
          subst eK
          obtain ⟨dK, rK, nK, mK, kK1, kK2, kK3, hpK, HGK⟩ := hcK j (X.K.getD j []) (by rw [List.getD_eq_getElem?_getD, List.getElem?_eq_getElem (by rw [HKN.out]; omega)]; rfl)
          have hglK := HGK.now.len
          have hsmK : nK ≤ 1000 := by
            have h1 := HJX.out.ks (X.K.getD j []) (by rw [List.getD_eq_getElem?_getD, List.getElem?_eq_getElem (by rw [HKN.out]; omega)]; exact List.getElem_mem _)
            have h2 := HJX.out.t
            omega
          obtain ⟨vsK, RSK, hcsK⟩ := HGK.now.vals
          have hvlK : vsK.length = nK := by rw [RSK.len, hglK]
          have oneK := RSK.one
          have HROK : Hid (∀ (Q : Nat → Prop) (W : World), Below wo.heap.size wo W → (∀ b, b < wo.heap.size → P b → Q b) → HRows Q W vsK (X.K.getD j [])) := fun Q W hW hQ => HRows.oldp RSK hcsK HGK hpK hW hQ
          have ccK : wb.cell? ⟨bK, oK + j, none⟩ = some (.slice (some ⟨dK, rK, none⟩) nK mK) := cell_keep kK1 (below_then HBQ.out GA.kp)
          have hbK : bK < wo.heap.size := by simpa using World.block_lt_of_cell? wo _ kK1
          clear hcK HGK hpK kK1
          obtain ⟨bV, oV, eV, -, hcV⟩ := HPO.out.2.cells (by show 0 < vn; omega)
          simp only at eV
          subst eV
          obtain ⟨dV, rV, nV, mV, kV1, kV2, kV3, hpV, HGV⟩ := hcV j (X.V.getD j []) (by rw [List.getD_eq_getElem?_getD, List.getElem?_eq_getElem (by rw [HVN.out]; omega)]; rfl)
          have hglV := HGV.now.len
          have hsmV : nV ≤ 1000 := by
            have h1 := HJX.out.vs (X.V.getD j []) (by rw [List.getD_eq_getElem?_getD, List.getElem?_eq_getElem (by rw [HVN.out]; omega)]; exact List.getElem_mem _)
            have h2 := HJX.out.t
            omega
          obtain ⟨vsV, RSV, hcsV⟩ := HGV.now.vals
          have hvlV : vsV.length = nV := by rw [RSV.len, hglV]
          have oneV := RSV.one
          have HROV : Hid (∀ (Q : Nat → Prop) (W : World), Below wo.heap.size wo W → (∀ b, b < wo.heap.size → P b → Q b) → HRows Q W vsV (X.V.getD j [])) := fun Q W hW hQ => HRows.oldp RSV hcsV HGV hpV hW hQ
          have ccV : wb.cell? ⟨bV, oV + j, none⟩ = some (.slice (some ⟨dV, rV, none⟩) nV mV) := cell_keep kV1 (below_then HBQ.out GA.kp)
          have hbV : bV < wo.heap.size := by simpa using World.block_lt_of_cell? wo _ kV1
          clear hcV HGV hpV kV1
          have hcK2 : ∀ u t, vsK[u]? = some t → wb.cell? ((Addr.mk dK rK none).add u) = some t := fun u t hu => cell_keep (hcsK u t hu) (below_then HBQ.out GA.kp)
          go_upto_region 22 with (at_builtin; refine wpList_append_hr rfl _ _ rfl (wq.heap.size + 1) (.slice (some ⟨ga, 0, none⟩) 0 0) 0 [] rfl O4 ⟨dK, rK, none⟩ nK mK vsK rfl hvlK hcK2 oneK (by omega) (by have := GA.blk.lt; omega) ?_; intro ya yc wc1 Q1 G1 N1 _)
          rw [Nat.zero_add] at Q1 N1
          have T1 := Tn.app4 (q := q) (v1 := v1) (v2 := v2) (v3 := (.slice none 0 0)) (v5 := (.slice (some ⟨gb, 0, none⟩) 0 0)) (h := wq.heap.size) G1 N1
          obtain ⟨r1, r2⟩ := GA.rows_off O4 G1
          have hs5 : ∀ b, (Value.slice (some ⟨gb, 0, none⟩) 0 0).ownBlock = some b → wc1.heap[b]? = wb.heap[b]? := fun b e => G1.block b (O5.lt b e).2 (fun e2 => h45 b e2.symm e)
          have l5 : ∀ g, (Value.slice (some ⟨gb, 0, none⟩) 0 0).ownBlock = some g → g < wb.heap.size := fun g e => (O5.lt g e).2
          have O5b := owns_mono O5 (Nat.le_refl _) hs5
          have h45b : ∀ g, (Value.slice ya nK yc).ownBlock = some g → (Value.slice (some ⟨gb, 0, none⟩) 0 0).ownBlock ≠ some g := fun g e e2 => by
            rcases N1 g e with a | a
            · exact h45 g a e2
            · have := l5 g e2; omega
          have GB := GA.side T1 r1 r2
          have b2b : wc1.cell? ⟨w2.heap.size, 2, none⟩ = some (.slice (some ⟨bV, oV, none⟩) vn vz) := (HXB.out _ GB.kp).2.1.cell 2 rfl
          have ccV2 : wc1.cell? ⟨bV, oV + j, none⟩ = some (.slice (some ⟨dV, rV, none⟩) nV mV) := by
            have e8 : wc1.heap[bV]? = wb.heap[bV]? := r2.block bV (by omega)
            rw [World.cell?_of_block (w := wb) (a := ⟨bV, oV + j, none⟩) e8]; exact ccV
          have hcV2 : ∀ u t, vsV[u]? = some t → wc1.cell? ((Addr.mk dV rV none).add u) = some t := fun u t hu => cell_keep (hcsV u t hu) (below_then HBQ.out GB.kp)
          clear O4 O5 GA h45 hs5 b1 b2 ccK ccV hcK2
          go_upto_region 23 with (at_builtin; refine wpList_append_hr rfl _ _ rfl (wq.heap.size + 1) (.slice (some ⟨gb, 0, none⟩) 0 0) 0 [] rfl O5b ⟨dV, rV, none⟩ nV mV vsV rfl hvlV hcV2 oneV (by omega) (by have := GB.blk.lt; omega) ?_; intro yb yd wc2 Q2 G2 N2 _)
          go_meet
          case rel =>
            rw [Nat.zero_add] at Q2 N2
            have T2 := Tn.app5 (q := q) (v1 := v1) (v2 := v2) (v3 := (.slice none 0 0)) (v4 := .slice ya nK yc) (h := wq.heap.size) G2 N2
            obtain ⟨r3, r4⟩ := GB.rows_off O5b G2
            have GC := GB.side T2 r3 r4
            have Q1b := owns_mono Q1 (Nat.le_refl _) (fun b e => G2.block b (Q1.lt b e).2 (fun e2 => h45b b e e2.symm))
            have h45c : ∀ g, (Value.slice ya nK yc).ownBlock = some g → (Value.slice yb nV yd).ownBlock ≠ some g := fun g e e2 => by
              rcases N2 g e2 with a | a
              · exact h45b g e a
              · have := (Q1.lt g e).2; omega
            exact ⟨ya, yb, yc, yd, nK, nV, vsK, vsV, rfl, rfl, hglK.symm, hglV.symm, Q1b, Q2, HROK.out _ _ (below_then HBQ.out GC.kp) (fun b hb hpb => GC.older (fun g e => Nat.le_of_succ_le (Q1b.lt g e).1) (fun g e => Nat.le_of_succ_le (Q2.lt g e).1) (by omega) ((HQ.out b).2 fun _ => hpb)), HROV.out _ _ (below_then HBQ.out GC.kp) (fun b hb hpb => GC.older (fun g e => Nat.le_of_succ_le (Q1b.lt g e).1) (fun g e => Nat.le_of_succ_le (Q2.lt g e).1) (by omega) ((HQ.out b).2 fun _ => hpb)), GC, h45c⟩
        · have hqi : ¬ (j : Int) < (kn : Int) := by omega
          have e0K : X.K.getD j [] = [] := by rw [List.getD_eq_getElem?_getD, List.getElem?_eq_none (by rw [HKN.out]; omega)]; rfl
          have e0V : X.V.getD j [] = [] := by rw [List.getD_eq_getElem?_getD, List.getElem?_eq_none (by rw [HVN.out]; omega)]; rfl
          have H0K : Hid (X.K.getD j [] = []) := e0K
          have H0V : Hid (X.V.getD j [] = []) := e0V
          clear e0K e0V
          go_upto_region 23 with fail
          go_meet
          case rel => exact ⟨_, _, 0, 0, 0, 0, [], [], rfl, rfl, by rw [H0K.out]; rfl, by rw [H0V.out]; rfl, O4, O5, by rw [H0K.out]; exact HRows.nil _ _, by rw [H0V.out]; exact HRows.nil _ _, GA, h45⟩
      case rest =>
      obtain ⟨ya, yb, yc, yd, n4, n5, us, ws, rfl, rfl, hn4, hn5, Q4, Q5, R4, R5, GB, h45⟩ := hcut
      clear GA O4 O5 b1 b2
      have hs4 : n4 ≤ 128 := by rw [hn4]; exact (ji_small HJX.out j).1
      have hs5 : n5 ≤ 128 := by rw [hn5]; exact (ji_small HJX.out j).2
      clear hn4 hn5
      obtain ⟨bk, ok, e9, hck⟩ := pK.cells (by omega)
      subst e9
      obtain ⟨bv, ov, e9, hcv⟩ := pV.cells (by omega)
      subst e9
      have hgk : Xk.K[j]? = some (Xk.K.getD j []) := by rw [List.getD_eq_getElem?_getD, List.getElem?_eq_getElem (by rw [HKL.out]; exact hlt3)]; rfl
      obtain ⟨rok, mk, ck, clk, -, -, -, GRk⟩ := hck j _ hgk
      have hlk := GRk.len
      have h9k := HKK.out _ (List.mem_of_getElem? hgk)
      have hmk : 1 ≤ mk ∧ mk ≤ 128 := by omega
      obtain ⟨dk, rk, e9, -⟩ := GRk.cells (by omega)
      subst e9
      obtain ⟨vsk, RSk, hcsk⟩ := GRk.vals
      have hvlk : vsk.length = mk := by rw [RSk.len, hlk]
      have onek := RSk.one
      have HROk : Hid (∀ (Q : Nat → Prop) (W : World), Below w.heap.size w W → (∀ b, b < w.heap.size → Q b) → HRows Q W vsk (Xk.K.getD j [])) := fun Q W hW hQ => HRows.old RSk hW hQ
      have HCSk : Hid (∀ W, Below w.heap.size w W → ∀ u t, vsk[u]? = some t → W.cell? ((Addr.mk dk rk none).add u) = some t) := fun W hW u t hu => cell_keep (hcsk u t hu) hW
      clear hck GRk hgk RSk hcsk hlk h9k
      have hgv : Xk.V[j]? = some (Xk.V.getD j []) := by rw [List.getD_eq_getElem?_getD, List.getElem?_eq_getElem (by rw [HVL.out]; exact hlt3)]; rfl
      obtain ⟨rov, mv, cv, clv, -, -, -, GRv⟩ := hcv j _ hgv
      have hlv := GRv.len
      have h9v := HVV.out _ (List.mem_of_getElem? hgv)
      have hmv : 1 ≤ mv ∧ mv ≤ 128 := by omega
      obtain ⟨dv, rv, e9, -⟩ := GRv.cells (by omega)
      subst e9
      obtain ⟨vsv, RSv, hcsv⟩ := GRv.vals
      have hvlv : vsv.length = mv := by rw [RSv.len, hlv]
      have onev := RSv.one
      have HROv : Hid (∀ (Q : Nat → Prop) (W : World), Below w.heap.size w W → (∀ b, b < w.heap.size → Q b) → HRows Q W vsv (Xk.V.getD j [])) := fun Q W hW hQ => HRows.old RSv hW hQ
      have HCSv : Hid (∀ W, Below w.heap.size w W → ∀ u t, vsv[u]? = some t → W.cell? ((Addr.mk dv rv none).add u) = some t) := fun W hW u t hu => cell_keep (hcsv u t hu) hW
      clear hcv GRv hgv RSv hcsv hlv h9v
      have HXS : Hid (∀ wv, Below wq.heap.size wq wv → Blk wv wo.heap.size 44 #[.slice p1 p2 p3, .int .i64 (i : Int), .slice (some ⟨bk, ok, none⟩) p8 p6, .slice (some ⟨bv, ov, none⟩) p8 p9] ∧ wv.cell? ⟨bk, ok + j, none⟩ = some (.slice (some ⟨dk, rk, none⟩) mk ck) ∧ wv.cell? ⟨bv, ov + j, none⟩ = some (.slice (some ⟨dv, rv, none⟩) mv cv) ∧ Below w.heap.size w wv) := fun wv hb => ⟨(HXB.out wv hb).1, cell_keep clk (HXB.out wv hb).2.2.2.2.1, cell_keep clv (HXB.out wv hb).2.2.2.2.1, (HXB.out wv hb).2.2.2.2.1⟩
      have hwo : w.heap.size ≤ wo.heap.size := hwo9.out
      clear clk clv
      have hQO : ∀ b, b < w.heap.size → b + 1 < wq.heap.size ∧ q b := fun b hb => ⟨by omega, (HQ.out b).2 fun _ => (HP.out b).2 ⟨by omega, by omega⟩⟩
      have HQO : Hid (∀ b, b < w.heap.size → b + 1 < wq.heap.size ∧ q b) := hQO
      clear hQO
      go_upto_region 23 with fail
      skip
      refine wp_region_late (S := fun w' => Blk w' wq.heap.size 31 #[.slice p1 p2 p3, v1, v2] ∧ Blk w' wo.heap.size 44 #[.slice p1 p2 p3, .int .i64 (i : Int), .slice (some ⟨bk, ok, none⟩) p8 p6, .slice (some ⟨bv, ov, none⟩) p8 p9] ∧ w'.cell? ⟨bk, ok + j, none⟩ = some (.slice (some ⟨dk, rk, none⟩) mk ck)) 12 (by kernel_rfl) ⟨GB.blk, (HXS.out _ GB.kp).1, (HXS.out _ GB.kp).2.1⟩ (fun hHeld => ?_)
      have BD : Below wc.heap.size wc wc.drew := (Below.refl _ wc).drew
      have GD := GB.below BD
      have QD := owns_below Q4 BD
      have RD := R4.turn (Tn.below BD)
      have Q5D := owns_below Q5 BD
      have R5D := R5.turn (Tn.below BD)
      generalize hwd : wc.drew = wd at *
      clear hwd BD GB Q4 R4 Q5 R5
      refine wpLate_pure (i := 0) (v := (.pointer (some ⟨wq.heap.size, 1, none⟩))) rfl (by decide) (by kernel_rfl) (by kernel_rfl) (by kernel_rfl) (fun _ _ _ h => h) (Or.inl ⟨by rfl, ?_⟩) (fun _ => by assumption) ?_
      · intro w' _
        go_simp
      simp only [List.getElem_toArray, List.getElem_cons_zero, Act.put, List.setIfInBounds_toArray, List.set_cons_zero, List.set_cons_succ]
      refine wpLate_take (i := 1) (v := v1) rfl (by kernel_rfl) (by kernel_rfl) (by kernel_rfl) (by kernel_rfl) (by kernel_rfl) (fun _ _ _ h => h) (Or.inl ⟨by rfl, ?_⟩) (by assumption) ?_
      · intro w' hSw
        have y0 : w'.cell? ⟨wq.heap.size, 1, none⟩ = some v1 := hSw.1.cell 1 rfl
        go_simp
      simp only [List.getElem_toArray, List.getElem_cons_succ, List.getElem_cons_zero, Act.put, List.setIfInBounds_toArray, List.set_cons_zero, List.set_cons_succ]
      refine wpLate_pure (i := 2) (v := (.slice ya n4 yc)) rfl (by decide) (by kernel_rfl) (by kernel_rfl) (by kernel_rfl) (fun _ _ _ h => h) (Or.inl ⟨by rfl, ?_⟩) (fun _ => by assumption) ?_
      · intro w' _
        go_simp
      simp only [List.getElem_toArray, List.getElem_cons_succ, List.getElem_cons_zero, Act.put, List.setIfInBounds_toArray, List.set_cons_zero, List.set_cons_succ]
      refine wpLate_pure (i := 3) (v := (.pointer (some ⟨wo.heap.size, 2, none⟩))) rfl (by decide) (by kernel_rfl) (by kernel_rfl) (by kernel_rfl) (fun _ _ _ h => h) (Or.inl ⟨by rfl, ?_⟩) (fun _ => by assumption) ?_
      · intro w' _
        go_simp
      simp only [List.getElem_toArray, List.getElem_cons_succ, List.getElem_cons_zero, Act.put, List.setIfInBounds_toArray, List.set_cons_zero, List.set_cons_succ]
      refine wpLate_take (i := 4) (v := (.slice (some ⟨bk, ok, none⟩) p8 p6)) rfl (by kernel_rfl) (by kernel_rfl) (by kernel_rfl) (by kernel_rfl) (by kernel_rfl) (fun _ _ _ h => h) (Or.inl ⟨by rfl, ?_⟩) (by assumption) ?_
      · intro w' hSw
        have y0 : w'.cell? ⟨wo.heap.size, 2, none⟩ = some (.slice (some ⟨bk, ok, none⟩) p8 p6) := hSw.2.1.cell 2 rfl
        go_simp
      simp only [List.getElem_toArray, List.getElem_cons_succ, List.getElem_cons_zero, Act.put, List.setIfInBounds_toArray, List.set_cons_zero, List.set_cons_succ]
      refine wpLate_pure (i := 5) (v := (.int .i64 (j : Int))) rfl (by decide) (by kernel_rfl) (by kernel_rfl) (by kernel_rfl) (fun _ _ _ h => h) (Or.inl ⟨by rfl, ?_⟩) (fun _ => by assumption) ?_
      · intro w' _
        go_simp
      simp only [List.getElem_toArray, List.getElem_cons_succ, List.getElem_cons_zero, Act.put, List.setIfInBounds_toArray, List.set_cons_zero, List.set_cons_succ]
      refine wpLate_pure (i := 6) (v := (.pointer (some ⟨bk, ok + j, none⟩))) rfl (by decide) (by kernel_rfl) (by kernel_rfl) (by kernel_rfl) (fun _ _ _ h => h) (Or.inl ⟨by rfl, ?_⟩) (fun _ => by assumption) ?_
      · intro w' _
        go_simp
      simp only [List.getElem_toArray, List.getElem_cons_succ, List.getElem_cons_zero, Act.put, List.setIfInBounds_toArray, List.set_cons_zero, List.set_cons_succ]
      refine wpLate_take (i := 7) (v := (.slice (some ⟨dk, rk, none⟩) mk ck)) rfl (by kernel_rfl) (by kernel_rfl) (by kernel_rfl) (by kernel_rfl) (by kernel_rfl) (fun _ _ _ h => h) (Or.inl ⟨by rfl, ?_⟩) (by assumption) ?_
      · intro w' hSw
        have y0 := hSw.2.2
        go_simp
      simp only [List.getElem_toArray, List.getElem_cons_succ, List.getElem_cons_zero, Act.put, List.setIfInBounds_toArray, List.set_cons_zero, List.set_cons_succ]
      refine wpLate_ready (rs := [8]) (by kernel_rfl) (by simp) ?_
      refine wpLate_cons rfl (fun Kc hKc => ?_) wpLate_nil
      simp only [List.getElem_toArray, List.getElem_cons_succ, List.getElem_cons_zero]
      rw [if_pos (by rfl)]
      refine wp_append_hr _ _ rfl (wq.heap.size + 1) (.slice ya n4 yc) n4 us rfl QD ⟨dk, rk, none⟩ mk ck vsk rfl hvlk (HCSk.out _ (HXS.out _ GD.kp).2.2.2) onek (by omega) (by have := GD.blk.lt; omega) ?_
      intro ea7 ec7 w7 O7 G7 N7 Z7
      have T7 := Tn.app4 (q := q) (v1 := v1) (v2 := v2) (v3 := (.slice none 0 0)) (v5 := (.slice yb n5 yd)) (h := wq.heap.size) G7 N7
      obtain ⟨r1, r2⟩ := GD.rows_off QD G7
      have GE := GD.side T7 r1 r2
      have RE := (RD.turn T7).append (HROk.out _ _ (HXS.out _ GE.kp).2.2.2 (fun b hb => GE.older (fun g e => Nat.le_of_succ_le (O7.lt g e).1) (fun g e => Nat.le_of_succ_le (Q5D.lt g e).1) (HQO.out b hb).1 (HQO.out b hb).2))
      have Q5E := owns_mono Q5D (Nat.le_refl _) (fun b e => G7.block b (Q5D.lt b e).2 (fun e2 => h45 b e2.symm e))
      have R5E := R5D.turn T7
      have h45e : ∀ g, (Value.slice ea7 (n4 + mk) ec7).ownBlock = some g → (Value.slice yb n5 yd).ownBlock ≠ some g := fun g e e2 => by
        rcases N7 g e with a | a
        · exact h45 g a e2
        · have := (Q5D.lt g e2).2; omega
      obtain ⟨gg, rfl⟩ := Z7 (by omega)
      obtain ⟨cp1, cp2⟩ := own_capsJ O7
      clear GD QD RD T7 r1 r2 G7 N7 Z7 Q5D R5D h45
      refine hKc.out _ _ (fun _ _ => ⟨GE.blk, (HXS.out _ GE.kp).1, (HXS.out _ GE.kp).2.1⟩) ?_
      clear hKc Kc
      refine wpLate_ready (rs := [9]) (by kernel_rfl) (by simp) ?_
      refine wpLate_cons rfl (fun Kc hKc => ?_) wpLate_nil
      simp only [List.getElem_toArray, List.getElem_cons_succ, List.getElem_cons_zero]
      rw [if_pos (by rfl)]
      go_wp2_with fail
      have BA : Below w7.heap.size w7 (w7.alloc (.cells #[(.slice (some ⟨gg, 0, none⟩) (n4 + mk) ec7)] 73)) := (Below.refl _ _).alloc (Nat.le_refl _) _
      have xa := cellListsJ w7 (.slice (some ⟨gg, 0, none⟩) (n4 + mk) ec7)
      generalize hwA : w7.alloc (.cells #[(.slice (some ⟨gg, 0, none⟩) (n4 + mk) ec7)] 73) = wB at *
      clear hwA
      have GF := (GE.below BA).drop4
      have OF := owns_below O7 BA
      have RF := (RE.turn (Tn.below BA)).turn (Tn.drop4 _)
      have Q5F := owns_below Q5E BA
      have R5F := (R5E.turn (Tn.below BA)).turn (Tn.drop4 _)
      have pg := GF.rows_p4 OF (h45e gg rfl) ((HQ.out gg).2 fun h => by have := (OF.lt gg rfl).1; omega)
      have gl := (OF.lt gg rfl).2
      have hY := RF.grid OF pg (by omega)
      clear GE O7 RE OF BA RF Q5E R5E h45e
      refine hKc.out _ _ (fun _ _ => ⟨GF.blk, (HXS.out _ GF.kp).1, (HXS.out _ GF.kp).2.1⟩) ?_
      clear hKc Kc
      refine wpLate_ready (rs := [10]) (by kernel_rfl) (by simp) ?_
      refine wpLate_cons rfl (fun Kc hKc => ?_) wpLate_nil
      simp only [List.getElem_toArray, List.getElem_cons_succ, List.getElem_cons_zero]
      rw [if_pos (by rfl)]
      refine wp_append_cu _ _ rfl (wq.heap.size + 1) (offO q v1 v2 (.slice none 0 0) (.slice none 0 0) (.slice yb n5 yd) wq.heap.size) v1 ((List.range j).map (catA X.K Xk.K)) j (by simp) rfl GF.c1 w7.heap.size gg (n4 + mk) ec7 _ rfl xa cp1 cp2 pg gl hY (by omega) (by have := GF.blk.lt; omega) ?_
      intro b8 bc8 w8 M8 G8 N8
      obtain ⟨GH, TH⟩ := GF.put1 M8 G8 N8
      have cx := GF.c1
      have hb8 : Blk w8 wq.heap.size 31 #[.slice p1 p2 p3, v1, v2] := GF.blk.of_block (G8.block _ GF.blk.lt (fun e => by have := (cx.lt _ e.symm).1; omega))
      have KB8 : Below wq.heap.size wq w8 := GF.kp.trans ⟨G8.os, G8.tape, G8.output, G8.size, fun b hb => G8.block b (Nat.lt_of_lt_of_le hb GF.kp.size) (fun e => by have := (cx.lt b e.symm).1; omega)⟩
      have c8 : w8.cell? ⟨wq.heap.size, 1, none⟩ = some v1 := hb8.cell 1 rfl
      have f8 := hb8.frozen 1
      have Q5H : (w8.setCell ⟨wq.heap.size, 1, none⟩ (.slice b8 (j + 1) bc8)).ownsRow (wq.heap.size + 1) 72 1 (.slice yb n5 yd) n5 ws := owns_mono Q5F (Nat.le_refl _) (fun b e => by
        rw [Below.heap_setCell _ _ _ b (fun e2 => by have e3 : b = wq.heap.size := e2; have := (Q5F.lt b e).1; omega)]
        exact G8.block b (Q5F.lt b e).2 (fun e2 => cx.ne_rowsJ Q5F b e2.symm e))
      have R5H := R5F.turn TH
      clear GF hY xa M8 G8 N8 TH cx pg gl Q5F R5F
      refine hKc.out _ _ (fun _ _ => ⟨hb8, (HXS.out _ KB8).1, (HXS.out _ KB8).2.1⟩) ?_
      clear hKc Kc
      refine wpLate_pure (i := 11) (v := (.pointer (some ⟨wq.heap.size, 1, none⟩))) rfl (by decide) (by kernel_rfl) (by kernel_rfl) (by kernel_rfl) (fun _ _ _ h => h) (Or.inl ⟨by rfl, ?_⟩) (fun _ => ⟨hb8, (HXS.out _ KB8).1, (HXS.out _ KB8).2.1⟩) ?_
      · intro w' _
        go_simp
      simp only [List.getElem_toArray, List.getElem_cons_succ, List.getElem_cons_zero, Act.put, List.setIfInBounds_toArray, List.set_cons_zero, List.set_cons_succ]
      refine wpLate_ready (rs := [12]) (by kernel_rfl) (by simp) ?_
      refine wpLate_cons rfl (fun Kc hKc => ?_) wpLate_nil
      simp only [List.getElem_toArray, List.getElem_cons_succ, List.getElem_cons_zero]
      rw [if_pos (by rfl)]
      go_wp2_with fail
      refine hKc.out _ _ (fun hne _ => absurd rfl hne) ?_
      clear hKc Kc
      try simp only [Act.put]
      refine wpLate_done (by kernel_rfl) ?_ _
      clear hb8 c8 f8 KB8
      obtain ⟨w9, hw9⟩ : ∃ w9, w9 = w8.setCell ⟨wq.heap.size, 1, none⟩ (.slice b8 (j + 1) bc8) := ⟨_, rfl⟩
      rw [← hw9] at GH Q5H R5H ⊢
      clear hw9
      skip
      go_upto_region 24 with fail
      refine wp_region_late (S := fun w' => Blk w' wq.heap.size 31 #[.slice p1 p2 p3, (.slice b8 (j + 1) bc8), v2] ∧ Blk w' wo.heap.size 44 #[.slice p1 p2 p3, .int .i64 (i : Int), .slice (some ⟨bk, ok, none⟩) p8 p6, .slice (some ⟨bv, ov, none⟩) p8 p9] ∧ w'.cell? ⟨bv, ov + j, none⟩ = some (.slice (some ⟨dv, rv, none⟩) mv cv)) 12 (by kernel_rfl) ⟨GH.blk, (HXS.out _ GH.kp).1, (HXS.out _ GH.kp).2.2.1⟩ (fun hHeld => ?_)
      have BD : Below w9.heap.size w9 w9.drew := (Below.refl _ w9).drew
      have GD := GH.below BD
      have QD := owns_below Q5H BD
      have RD := R5H.turn (Tn.below BD)
      generalize hwd : w9.drew = wd at *
      clear hwd BD GH Q5H R5H
      refine wpLate_pure (i := 0) (v := (.pointer (some ⟨wq.heap.size, 2, none⟩))) rfl (by decide) (by kernel_rfl) (by kernel_rfl) (by kernel_rfl) (fun _ _ _ h => h) (Or.inl ⟨by rfl, ?_⟩) (fun _ => by assumption) ?_
      · intro w' _
        go_simp
      simp only [List.getElem_toArray, List.getElem_cons_zero, Act.put, List.setIfInBounds_toArray, List.set_cons_zero, List.set_cons_succ]
      refine wpLate_take (i := 1) (v := v2) rfl (by kernel_rfl) (by kernel_rfl) (by kernel_rfl) (by kernel_rfl) (by kernel_rfl) (fun _ _ _ h => h) (Or.inl ⟨by rfl, ?_⟩) (by assumption) ?_
      · intro w' hSw
        have y0 : w'.cell? ⟨wq.heap.size, 2, none⟩ = some v2 := hSw.1.cell 2 rfl
        go_simp
      simp only [List.getElem_toArray, List.getElem_cons_succ, List.getElem_cons_zero, Act.put, List.setIfInBounds_toArray, List.set_cons_zero, List.set_cons_succ]
      refine wpLate_pure (i := 2) (v := (.slice yb n5 yd)) rfl (by decide) (by kernel_rfl) (by kernel_rfl) (by kernel_rfl) (fun _ _ _ h => h) (Or.inl ⟨by rfl, ?_⟩) (fun _ => by assumption) ?_
      · intro w' _
        go_simp
      simp only [List.getElem_toArray, List.getElem_cons_succ, List.getElem_cons_zero, Act.put, List.setIfInBounds_toArray, List.set_cons_zero, List.set_cons_succ]
      refine wpLate_pure (i := 3) (v := (.pointer (some ⟨wo.heap.size, 3, none⟩))) rfl (by decide) (by kernel_rfl) (by kernel_rfl) (by kernel_rfl) (fun _ _ _ h => h) (Or.inl ⟨by rfl, ?_⟩) (fun _ => by assumption) ?_
      · intro w' _
        go_simp
      simp only [List.getElem_toArray, List.getElem_cons_succ, List.getElem_cons_zero, Act.put, List.setIfInBounds_toArray, List.set_cons_zero, List.set_cons_succ]
      refine wpLate_take (i := 4) (v := (.slice (some ⟨bv, ov, none⟩) p8 p9)) rfl (by kernel_rfl) (by kernel_rfl) (by kernel_rfl) (by kernel_rfl) (by kernel_rfl) (fun _ _ _ h => h) (Or.inl ⟨by rfl, ?_⟩) (by assumption) ?_
      · intro w' hSw
        have y0 : w'.cell? ⟨wo.heap.size, 3, none⟩ = some (.slice (some ⟨bv, ov, none⟩) p8 p9) := hSw.2.1.cell 3 rfl
        go_simp
      simp only [List.getElem_toArray, List.getElem_cons_succ, List.getElem_cons_zero, Act.put, List.setIfInBounds_toArray, List.set_cons_zero, List.set_cons_succ]
      refine wpLate_pure (i := 5) (v := (.int .i64 (j : Int))) rfl (by decide) (by kernel_rfl) (by kernel_rfl) (by kernel_rfl) (fun _ _ _ h => h) (Or.inl ⟨by rfl, ?_⟩) (fun _ => by assumption) ?_
      · intro w' _
        go_simp
      simp only [List.getElem_toArray, List.getElem_cons_succ, List.getElem_cons_zero, Act.put, List.setIfInBounds_toArray, List.set_cons_zero, List.set_cons_succ]
      refine wpLate_pure (i := 6) (v := (.pointer (some ⟨bv, ov + j, none⟩))) rfl (by decide) (by kernel_rfl) (by kernel_rfl) (by kernel_rfl) (fun _ _ _ h => h) (Or.inl ⟨by rfl, ?_⟩) (fun _ => by assumption) ?_
      · intro w' _
        go_simp
      simp only [List.getElem_toArray, List.getElem_cons_succ, List.getElem_cons_zero, Act.put, List.setIfInBounds_toArray, List.set_cons_zero, List.set_cons_succ]
      refine wpLate_take (i := 7) (v := (.slice (some ⟨dv, rv, none⟩) mv cv)) rfl (by kernel_rfl) (by kernel_rfl) (by kernel_rfl) (by kernel_rfl) (by kernel_rfl) (fun _ _ _ h => h) (Or.inl ⟨by rfl, ?_⟩) (by assumption) ?_
      · intro w' hSw
        have y0 := hSw.2.2
        go_simp
      simp only [List.getElem_toArray, List.getElem_cons_succ, List.getElem_cons_zero, Act.put, List.setIfInBounds_toArray, List.set_cons_zero, List.set_cons_succ]
      refine wpLate_ready (rs := [8]) (by kernel_rfl) (by simp) ?_
      refine wpLate_cons rfl (fun Kc hKc => ?_) wpLate_nil
      simp only [List.getElem_toArray, List.getElem_cons_succ, List.getElem_cons_zero]
      rw [if_pos (by rfl)]
      refine wp_append_hr _ _ rfl (wq.heap.size + 1) (.slice yb n5 yd) n5 ws rfl QD ⟨dv, rv, none⟩ mv cv vsv rfl hvlv (HCSv.out _ (HXS.out _ GD.kp).2.2.2) onev (by omega) (by have := GD.blk.lt; omega) ?_
      intro ea7 ec7 w7 O7 G7 N7 Z7
      have T7 := Tn.app5 (q := q) (v1 := (.slice b8 (j + 1) bc8)) (v2 := v2) (v3 := (.slice none 0 0)) (v4 := (.slice none 0 0)) (h := wq.heap.size) G7 N7
      obtain ⟨r1, r2⟩ := GD.rows_off QD G7
      have GE := GD.side T7 r1 r2
      have RE := (RD.turn T7).append (HROv.out _ _ (HXS.out _ GE.kp).2.2.2 (fun b hb => GE.older (fun g e => (no_ownJ g e).elim) (fun g e => Nat.le_of_succ_le (O7.lt g e).1) (HQO.out b hb).1 (HQO.out b hb).2))
      obtain ⟨gg, rfl⟩ := Z7 (by omega)
      obtain ⟨cp1, cp2⟩ := own_capsJ O7
      clear GD QD RD T7 r1 r2 G7 N7 Z7
      refine hKc.out _ _ (fun _ _ => ⟨GE.blk, (HXS.out _ GE.kp).1, (HXS.out _ GE.kp).2.2.1⟩) ?_
      clear hKc Kc
      refine wpLate_ready (rs := [9]) (by kernel_rfl) (by simp) ?_
      refine wpLate_cons rfl (fun Kc hKc => ?_) wpLate_nil
      simp only [List.getElem_toArray, List.getElem_cons_succ, List.getElem_cons_zero]
      rw [if_pos (by rfl)]
      go_wp2_with fail
      have BA : Below w7.heap.size w7 (w7.alloc (.cells #[(.slice (some ⟨gg, 0, none⟩) (n5 + mv) ec7)] 73)) := (Below.refl _ _).alloc (Nat.le_refl _) _
      have xa := cellListsJ w7 (.slice (some ⟨gg, 0, none⟩) (n5 + mv) ec7)
      generalize hwA : w7.alloc (.cells #[(.slice (some ⟨gg, 0, none⟩) (n5 + mv) ec7)] 73) = wB at *
      clear hwA
      have GF := (GE.below BA).drop
      have OF := owns_below O7 BA
      have RF := (RE.turn (Tn.below BA)).turn (Tn.drop _)
      have pg := GF.rows_p4 OF (fun e => no_ownJ _ e) ((HQ.out gg).2 fun h => by have := (OF.lt gg rfl).1; omega)
      have gl := (OF.lt gg rfl).2
      have hY := RF.grid OF pg (by omega)
      clear GE O7 RE OF BA RF
      refine hKc.out _ _ (fun _ _ => ⟨GF.blk, (HXS.out _ GF.kp).1, (HXS.out _ GF.kp).2.2.1⟩) ?_
      clear hKc Kc
      refine wpLate_ready (rs := [10]) (by kernel_rfl) (by simp) ?_
      refine wpLate_cons rfl (fun Kc hKc => ?_) wpLate_nil
      simp only [List.getElem_toArray, List.getElem_cons_succ, List.getElem_cons_zero]
      rw [if_pos (by rfl)]
      refine wp_append_cu _ _ rfl (wq.heap.size + 1) (offO q (.slice b8 (j + 1) bc8) v2 (.slice none 0 0) (.slice none 0 0) (.slice none 0 0) wq.heap.size) v2 ((List.range j).map (catA X.V Xk.V)) j (by simp) rfl GF.c2 w7.heap.size gg (n5 + mv) ec7 _ rfl xa cp1 cp2 pg gl hY (by omega) (by have := GF.blk.lt; omega) ?_
      intro b9 bc9 w8 M8 G8 N8
      obtain ⟨GH, TH⟩ := GF.put2 M8 G8 N8
      have cx := GF.c2
      have hb8 : Blk w8 wq.heap.size 31 #[.slice p1 p2 p3, (.slice b8 (j + 1) bc8), v2] := GF.blk.of_block (G8.block _ GF.blk.lt (fun e => by have := (cx.lt _ e.symm).1; omega))
      have KB8 : Below wq.heap.size wq w8 := GF.kp.trans ⟨G8.os, G8.tape, G8.output, G8.size, fun b hb => G8.block b (Nat.lt_of_lt_of_le hb GF.kp.size) (fun e => by have := (cx.lt b e.symm).1; omega)⟩
      have c8 : w8.cell? ⟨wq.heap.size, 2, none⟩ = some v2 := hb8.cell 2 rfl
      have f8 := hb8.frozen 2
      clear GF hY xa M8 G8 N8 TH cx pg gl
      refine hKc.out _ _ (fun _ _ => ⟨hb8, (HXS.out _ KB8).1, (HXS.out _ KB8).2.2.1⟩) ?_
      clear hKc Kc
      refine wpLate_pure (i := 11) (v := (.pointer (some ⟨wq.heap.size, 2, none⟩))) rfl (by decide) (by kernel_rfl) (by kernel_rfl) (by kernel_rfl) (fun _ _ _ h => h) (Or.inl ⟨by rfl, ?_⟩) (fun _ => ⟨hb8, (HXS.out _ KB8).1, (HXS.out _ KB8).2.2.1⟩) ?_
      · intro w' _
        go_simp
      simp only [List.getElem_toArray, List.getElem_cons_succ, List.getElem_cons_zero, Act.put, List.setIfInBounds_toArray, List.set_cons_zero, List.set_cons_succ]
      refine wpLate_ready (rs := [12]) (by kernel_rfl) (by simp) ?_
      refine wpLate_cons rfl (fun Kc hKc => ?_) wpLate_nil
      simp only [List.getElem_toArray, List.getElem_cons_succ, List.getElem_cons_zero]
      rw [if_pos (by rfl)]
      go_wp2_with fail
      refine hKc.out _ _ (fun hne _ => absurd rfl hne) ?_
      clear hKc Kc
      try simp only [Act.put]
      refine wpLate_done (by kernel_rfl) ?_ _
      clear hb8 c8 f8 KB8
      have GZ : GoV q wq (w8.setCell ⟨wq.heap.size, 2, none⟩ (.slice b9 (j + 1) bc9)) (.slice p1 p2 p3) (.slice b8 (j + 1) bc8) (.slice b9 (j + 1) bc9) (.slice none 0 0) (.slice none 0 0) ((List.range (j + 1)).map (catA X.K Xk.K)) ((List.range (j + 1)).map (catA X.V Xk.V)) := by rw [map_range_succJ, map_range_succJ]; exact GH
      clear GH
      go_wp2_with fail
      go_roundg (p8 - (j + 1))
      case measure => omega
      case rel => exact ⟨j + 1, b8, b9, bc8, bc9, by omega, rfl, by go_num, GZ⟩
end Go.Proofs.Ytpplnjmjldhlbaa

/- Rows of the document's blocks, of the call's own, that grow. -/
namespace Go.Proofs.Ytpplnjmjldhlbaa
open Go.ChangeShapes Go.WideShapes Go.ChangeAt Go.RowKit
theorem Try.infoTgr : (Try.prog.info? 44).map (fun i => (i.zero, i.size, i.bytes)) = some (some (.agg #[.slice none 0 0, .int .i64 0, .slice none 0 0, .slice none 0 0]), 4, 80) := by kernel_rfl
/-- The blocks ahead of y and from s on, but not a value's own. -/
def offW (y s : Nat) (u : Value) (b : Nat) : Prop := (b < y ∨ s ≤ b) ∧ u.ownBlock ≠ some b
theorem Tn.offW {y s : Nat} {u u' : Value} {w w' : World} (hG : w.grownBy w' u.ownBlock) (hN : ∀ g, u'.ownBlock = some g → u.ownBlock = some g ∨ w.heap.size ≤ g) : Tn (offW y s u) (offW y s u') w w' :=
  ⟨hG.size, fun b hb hp => ⟨⟨hp.1, fun e => by rcases hN b e with a | a; exact hp.2 a; omega⟩, hG.block b hb (fun e => hp.2 e.symm)⟩⟩
/-- A row of pages of the call's own; its pages hang on blocks from s on. -/
def OwnTg (w : World) (B y s : Nat) (u : Value) (l : List Pg) : Prop :=
  ∃ pvs : List PgV, w.ownsRow B 44 4 u l.length (flatP pvs) ∧ pvs.length = l.length ∧ ∀ (t : Nat) (X : Pg), l[t]? = some X → ∃ p, pvs[t]? = some p ∧ Hangs (offW y s u) w (fun w => PgAt w p X)
theorem ownTg_nil (w : World) (B y s : Nat) : OwnTg w B y s (.slice none 0 0) [] := ⟨[], World.ownsRow_nil _ _ _ _, rfl, fun t X h => by simp at h⟩
theorem OwnTg.below {w w' : World} {B y s : Nat} {u : Value} {l : List Pg} (h : OwnTg w B y s u l) (hb : Below w.heap.size w w') : OwnTg w' B y s u l := by
  obtain ⟨pvs, O, hl, hp⟩ := h
  exact ⟨pvs, owns4 O (fun b e => hb.block b (owns4_lt O e).2), hl, fun t X hX => let ⟨p, e, H⟩ := hp t X hX; ⟨p, e, H.below hb⟩⟩
theorem OwnTg.lt {w : World} {B y s : Nat} {u : Value} {l : List Pg} (h : OwnTg w B y s u l) {b : Nat} (hb : u.ownBlock = some b) : B ≤ b ∧ b < w.heap.size := by
  obtain ⟨pvs, O, _⟩ := h
  exact owns4_lt O hb
theorem OwnTg.form {w : World} {B y s : Nat} {u : Value} {l : List Pg} (h : OwnTg w B y s u l) : ∃ a c, u = .slice a l.length c := by
  obtain ⟨pvs, O, _⟩ := h
  rcases O.2 with ⟨h1, h2⟩ | ⟨g, cap, cur, hv, _⟩
  · exact ⟨none, 0, by rw [h1, h2]⟩
  · exact ⟨_, _, hv⟩
/-- append(l, page), as one operation. -/
theorem wp_append_tg {w : World} {o : Oper} {a : Act} {K : Act → World → Prop} {Q : Exit → Act → World → Prop} (s' x : Operand)
    (ho : o.op = .call { callee := .builtin .append, args := #[s', x], argTypes := #[40, 40] })
    (B y s : Nat) (u : Value) (l : List Pg) (n : Nat) (hn : l.length = n) (hs : a.eval s' = u) (hF : OwnTg w B y s u l) (bo : Nat) (p : PgV) (X : Pg) (hx : a.eval x = .slice (some ⟨bo, 0, none⟩) 1 1) (hX : Blk w bo 44 p.cells) (hp : Hangs (offW y s u) w (fun w => PgAt w p X))
    (hlen : n + 1 ≤ 1000000) (hB : B ≤ w.heap.size)
    (h : ∀ ea ec w', OwnTg w' B y s (.slice ea (n + 1) ec) (l ++ [X]) → w.grownBy w' u.ownBlock → (∀ g, (Value.slice ea (n + 1) ec).ownBlock = some g → u.ownBlock = some g ∨ w.heap.size ≤ g) → K (a.put o.dst (.slice ea (n + 1) ec)) w') : o.wp Try.prog a w K Q := by
  subst hn
  obtain ⟨i0, hi, hzz⟩ := Option.map_eq_some_iff.1 Try.infoTgr
  simp only [Prod.mk.injEq] at hzz
  obtain ⟨hz0, hz1, hz2⟩ := hzz
  obtain ⟨pvs, O, hl, hq⟩ := hF
  refine wp_append_own2 w s' x 40 ho B 44 i0 _ 4 80 Try.underlying40 hi hz0 hz1 hz2 rfl (by decide) u l.length (flatP pvs) hs O ⟨bo, 0, none⟩ 1 1 p.cells.toList hx rfl ?_ ?_ (by unfold maxLen; omega) (by omega) hB ?_
  · intro j v hj
    rw [Addr.add_mid, Nat.zero_add]
    exact hX.cell j (by simpa using hj)
  · intro v hv
    exact (Array.all_eq_true_iff_forall_mem.1 (pg_one p)) v (by simpa using hv)
  · intro v' w' O1 G1 _ N1
    have N2 : ∀ g, v'.ownBlock = some g → u.ownBlock = some g ∨ w.heap.size ≤ g := fun g e => by
      rcases N1 g e with b | b
      · exact Or.inl b
      · exact Or.inr (by omega)
    have T := Tn.offW (y := y) (s := s) G1 N2
    have F : OwnTg w' B y s v' (l ++ [X]) := by
      refine ⟨pvs ++ [p], by rw [flatP_snoc, List.length_append, List.length_singleton]; exact O1, by simp [hl], fun t Y hY => ?_⟩
      rcases Nat.lt_or_ge t l.length with h1 | h1
      · rw [List.getElem?_append_left h1] at hY
        obtain ⟨q, e, H⟩ := hq t Y hY
        exact ⟨q, by rw [List.getElem?_append_left (by omega)]; exact e, H.turn T⟩
      · rw [List.getElem?_append_right h1] at hY
        have e0 : t - l.length = 0 := by
          rcases Nat.eq_zero_or_pos (t - l.length) with e | e
          · exact e
          · rw [List.getElem?_eq_none (by simp; omega)] at hY; cases hY
        rw [e0] at hY
        simp at hY
        subst hY
        exact ⟨p, by rw [List.getElem?_append_right (by omega), hl, e0]; rfl, hp.turn T⟩
    obtain ⟨ea, ec, e4⟩ := F.form
    rw [List.length_append, List.length_singleton] at e4
    subst e4
    exact h ea ec w' F G1 N2
/-- append(l, page). -/
theorem wpList_append_tg {w : World} {ops : Array Oper} {rest : List Oper} {o : Oper} {a : Act} {Q : Exit → Act → World → Prop} (hgd : o.guard = none) (s' x : Operand)
    (ho : o.op = .call { callee := .builtin .append, args := #[s', x], argTypes := #[40, 40] })
    (B y s : Nat) (u : Value) (l : List Pg) (n : Nat) (hn : l.length = n) (hs : a.eval s' = u) (hF : OwnTg w B y s u l) (bo : Nat) (p : PgV) (X : Pg) (hx : a.eval x = .slice (some ⟨bo, 0, none⟩) 1 1) (hX : Blk w bo 44 p.cells) (hp : Hangs (offW y s u) w (fun w => PgAt w p X))
    (hlen : n + 1 ≤ 1000000) (hB : B ≤ w.heap.size)
    (h : ∀ ea ec w', OwnTg w' B y s (.slice ea (n + 1) ec) (l ++ [X]) → w.grownBy w' u.ownBlock → (∀ g, (Value.slice ea (n + 1) ec).ownBlock = some g → u.ownBlock = some g ∨ w.heap.size ≤ g) → wpList Try.prog ops Q rest (a.put o.dst (.slice ea (n + 1) ec)) w') : wpList Try.prog ops Q (o :: rest) a w :=
  wpList_plain hgd fun _ hK => wp_append_tg s' x ho B y s u l n hn hs hF bo p X hx hX hp hlen hB (fun ea ec w' h1 h2 h3 => hK _ _ (h ea ec w' h1 h2 h3))
/-- What a row of pages hangs on. -/
theorem OwnTg.new {w : World} {B y s : Nat} {a : Option Addr} {n c : Nat} {l : List Pg} (h : OwnTg w B y s (.slice a n c) l) (hn : n ≤ 1000000) (hB : s ≤ B) : Hangs (fun b => b < y ∨ s ≤ b) w (fun w => PgsAt w ⟨a, n, c⟩ l) := by
  obtain ⟨pvs, O, hl, hq⟩ := h
  have hln : l.length = n := by
    obtain ⟨a2, c2, e⟩ := OwnTg.form (⟨pvs, O, hl, hq⟩ : OwnTg w B y s (.slice a n c) l)
    simp only [Value.slice.injEq] at e
    exact e.2.1.symm
  intro w2 h2
  have O2 := owns4 O (fun b e => h2 b (Or.inr (Nat.le_trans hB (owns4_lt O e).1)) (owns4_lt O e).2)
  have hfit : n ≤ c := by
    rcases O.2 with ⟨q1, q2⟩ | ⟨g, cap, cur, q1, _, _, q4, _⟩
    · omega
    · simp only [Value.slice.injEq] at q1
      obtain ⟨-, -, rfl⟩ := q1
      omega
  refine ⟨hln, hn, hfit, fun hn0 => ?_⟩
  have hn1 : 0 < n := hn0
  rcases O2.2 with ⟨q1, q2⟩ | ⟨g, cap, cur, q1, _⟩
  · omega
  · simp only [Value.slice.injEq] at q1
    obtain ⟨rfl, -, rfl⟩ := q1
    refine ⟨g, 0, rfl, fun t X hX => ?_⟩
    obtain ⟨p, e, H⟩ := hq t X hX
    refine ⟨p, fun j v hv => ?_, H w2 fun b hb hl2 => h2 b hb.1 hl2⟩
    have hc := O2.cells (g := g) rfl (t * 4 + j) v (flatP_at pvs t p e j v hv)
    rw [Addr.add_mid] at hc
    rw [Nat.zero_add] at hc ⊢
    exact hc
end Go.Proofs.Ytpplnjmjldhlbaa

/- Rows of blocks of any numbers as the document's, at most so many. -/
namespace Go.Proofs.Ytpplnjmjldhlbaa
open Go.ChangeShapes Go.WideShapes Go.ChangeAt Go.RowKit
theorem ownTg_none (w : World) (y s : Nat) : OwnTg (w.alloc (.cells #[] 44)) w.heap.size y s (.slice (some ⟨w.heap.size, 0, none⟩) 0 0) [] := ⟨[], World.ownsRow_made w #[] 0 (Nat.le_refl _) (by decide) rfl, rfl, fun t X h => by simp at h⟩
/-- A row of blocks as it comes in. -/
structure PgsR (w : World) (s : Sl) (l : List Pg) : Prop where
  len : l.length = s.n
  max : s.n ≤ 9223372036854775807
  cells : 0 < s.n → ∃ g o, s.ao = some ⟨g, o, none⟩ ∧ ∀ (t : Nat) (X : Pg), l[t]? = some X → ∃ p : PgV, w.rangeAt g (o + t * 4) p.cells.toList ∧ PgR w p X
theorem PgsR.below {w w' : World} {s : Sl} {l : List Pg} (h : PgsR w s l) (hb : Below w.heap.size w w') : PgsR w' s l := by
  refine ⟨h.len, h.max, fun hn => ?_⟩
  obtain ⟨g, o, e, hc⟩ := h.cells hn
  refine ⟨g, o, e, fun t X hX => ?_⟩
  obtain ⟨p, h1, h2⟩ := hc t X hX
  exact ⟨p, pg_range h1 hb, h2.below hb⟩
set_option maxRecDepth 100000 in
set_option maxHeartbeats 3200000 in
theorem row11_any (s : Sl) (l : List Pg) (lim : Nat) (w : World) (hs : PgsR w s l) (hlim : lim ≤ 1000) :
   Calls Try.prog 16 #[s.v, .int .i64 (lim : Int)] w fun e w' => ∃ s2 : Sl, e = .returned s2.v ∧ PgsAt w' s2 ((l.map cutPg).take lim) ∧ Below w.heap.size w w' := by
  have HS : Hid (∀ wv, Below w.heap.size w wv → PgsR wv s l) := fun wv hb => hs.below hb
  have hlen := hs.len
  have hmax := hs.max
  obtain ⟨ao, n, ca⟩ := s
  simp only at hlen hmax
  clear hs
  obtain ⟨m, hm⟩ : ∃ m, m = min lim n := ⟨_, rfl⟩
  have HM : Hid (m = min lim n) := hm
  have HL : Hid (l.length = n) := hlen
  have OT : OwnTg (w.alloc (.cells #[] 44)) w.heap.size 0 w.heap.size (.slice (some ⟨w.heap.size, 0, none⟩) 0 0) [] := ownTg_none w _ _
  have D1 : Below w.heap.size w (w.alloc (.cells #[] 44)) := (Below.refl _ _).alloc (Nat.le_refl _) _
  generalize hw1 : w.alloc (.cells #[] 44) = w1 at *
  unfold Sl.v
  simp only
  clear hm hlen
  go_enter Try.func16, Try.ntmps16
  go_upto_region 3 with fail
  clear hw1
  go_loopg [5, 6] (m + 1) (fun r s5 s6 wr => ∃ (k : Nat) (u : Value), k ≤ m ∧ r = m - k + 1 ∧ s6 = .int .i64 (k : Int) ∧ s5 = u ∧ OwnTg wr w.heap.size 0 w.heap.size u ((l.take k).map cutPg) ∧ Below w.heap.size w wr)
  case atStart => exact ⟨0, _, by omega, by omega, rfl, rfl, by rw [List.take_zero]; exact OT, D1⟩
  case round =>
    clear OT D1
    obtain ⟨k, u, hk, rfl, rfl, hu, OT, DR⟩ := hrel
    obtain rfl := hu.symm
    clear hu
    have hm2 := HM.out
    by_cases hlt : k < m
    · have h1 : (k : Int) < (n : Int) := by omega
      have h2 : (k : Int) < (lim : Int) := by omega
      have SR := HS.out _ DR
      obtain ⟨g, o, e, hc⟩ := SR.cells (by show 0 < n; omega)
      simp only at e
      subst e
      obtain ⟨X, hX⟩ : ∃ X, l[k]? = some X := ⟨_, List.getElem?_eq_getElem (show k < l.length by rw [HL.out]; omega)⟩
      obtain ⟨p, r0, PR⟩ := hc k X hX
      have TL := told11_any p X wr PR
      have HTK : Hid ((l.take (k + 1)).map cutPg = (l.take k).map cutPg ++ [cutPg X]) := by
        show _ = _
        rw [List.take_add_one, hX]; simp
      have hlk : ((l.take k).map cutPg).length = k := by rw [List.length_map, List.length_take, HL.out]; omega
      have zr := DR.size
      have OL : ∀ b, u.ownBlock = some b → b < wr.heap.size := fun b e => (OT.lt e).2
      clear hc SR hX PR
      obtain ⟨⟨p1, p2, p3⟩, pf, ⟨p4, p5, p6⟩, ⟨p7, p8, p9⟩⟩ := p
      rw [show (PgV.cells ⟨⟨p1, p2, p3⟩, pf, ⟨p4, p5, p6⟩, ⟨p7, p8, p9⟩⟩) = #[.slice p1 p2 p3, .int .i64 pf, .slice p4 p5 p6, .slice p7 p8 p9] from rfl] at r0 TL
      clear hm2
      go_wp2_with (refine wpList_load_mid rfl 47 _ rfl g (o + k * 4) rfl [.slice p1 p2 p3, .int .i64 pf, .slice p4 p5 p6, .slice p7 p8 p9] _ r0 Try.underlying47 rfl (by exact Try.infoPg) ?_)
      refine TL.mono ?_
      rintro e w3 ⟨⟨⟨q1, q2, q3⟩, qf, ⟨q4, q5, q6⟩, ⟨q7, q8, q9⟩⟩, rfl, N3, B3⟩
      rw [show (PgV.cells ⟨⟨q1, q2, q3⟩, qf, ⟨q4, q5, q6⟩, ⟨q7, q8, q9⟩⟩) = #[.slice q1 q2 q3, .int .i64 qf, .slice q4 q5 q6, .slice q7 q8 q9] from rfl]
      have HP : Hangs (offW 0 w.heap.size u) w3 (fun w => PgAt w ⟨⟨q1, q2, q3⟩, qf, ⟨q4, q5, q6⟩, ⟨q7, q8, q9⟩⟩ (cutPg X)) := Hangs.mono N3 (fun b _ hb => by
        have hb' : wr.heap.size ≤ b := hb
        exact ⟨Or.inr (by omega), fun e => by have := OL b e; omega⟩)
      replace OT := OT.below B3
      have D3 := below_then DR B3
      have CN := blk_new w3 44 #[.slice q1 q2 q3, .int .i64 qf, .slice q4 q5 q6, .slice q7 q8 q9]
      have BA : Below w3.heap.size w3 (w3.alloc (.cells #[.slice q1 q2 q3, .int .i64 qf, .slice q4 q5 q6, .slice q7 q8 q9] 44)) := (Below.refl _ _).alloc (Nat.le_refl _) _
      generalize hwa : w3.alloc (.cells #[.slice q1 q2 q3, .int .i64 qf, .slice q4 q5 q6, .slice q7 q8 q9] 44) = wa at *
      replace OT := OT.below BA
      replace HP := Hangs.below HP BA
      have DA := below_then D3 BA
      have za := DA.size
      clear TL N3 B3 BA DR D3
      go_wp2_with (at_builtin; refine wpList_append_tg rfl _ _ rfl w.heap.size 0 w.heap.size u ((l.take k).map cutPg) k hlk rfl OT w3.heap.size ⟨⟨q1, q2, q3⟩, qf, ⟨q4, q5, q6⟩, ⟨q7, q8, q9⟩⟩ (cutPg X) rfl CN HP (by omega) (by omega) ?_; intro ea ec w5 O5 G5 N5)
      have D5 : Below w.heap.size w w5 := DA.grown G5 (by omega) (fun g e => (OT.lt e).1)
      go_roundg (m - (k + 1) + 1)
      case measure => omega
      case rel => exact ⟨k + 1, _, by omega, by omega, by go_num, rfl, by rw [HTK.out]; exact O5, D5⟩
    · obtain rfl : k = m := by omega
      obtain ⟨a, c, e9⟩ := OT.form
      rw [List.length_map, List.length_take, HL.out, show min k n = k by omega] at e9
      subst e9
      have HN : Hid ((OwnTg wr w.heap.size 0 w.heap.size (.slice a k c) ((l.take k).map cutPg))) := OT
      have HTT : Hid (l.take lim = l.take k) := by
        show _ = _
        rcases Nat.lt_or_ge lim n with h | h
        · rw [show k = lim by omega]
        · rw [List.take_of_length_le (by rw [HL.out]; exact h), List.take_of_length_le (by rw [HL.out]; omega)]
      by_cases hn : k < n
      · have h1 : (k : Int) < (n : Int) := by omega
        have h2 : ¬ (k : Int) < (lim : Int) := by omega
        clear hm2 OT
        go_wp2_with fail
        go_ret
        exact ⟨⟨a, k, c⟩, rfl, by rw [← List.map_take, HTT.out]; exact (HN.out.new (by have := HM.out; omega) (Nat.le_refl _)).now, DR⟩
      · have h1 : ¬ (k : Int) < (n : Int) := by omega
        clear hm2 OT
        go_wp2_with fail
        go_ret
        exact ⟨⟨a, k, c⟩, rfl, by rw [← List.map_take, HTT.out]; exact (HN.out.new (by have := HM.out; omega) (Nat.le_refl _)).now, DR⟩
end Go.Proofs.Ytpplnjmjldhlbaa

/- Rows of bytes of the program's own; the bytes of numbers. -/
namespace Go.Proofs.Ytpplnjmjldhlbaa
open Go.ChangeShapes Go.WideShapes Go.ChangeAt Go.RowKit
def txt (l : List UInt8) : ByteArray := ⟨l.toArray⟩
theorem txt_list (l : List UInt8) : (txt l).data.toList = l := by simp [txt]
theorem txt_size (l : List UInt8) : (txt l).size = l.length := by simp [txt, ByteArray.size]
theorem txt_of (s : ByteArray) : txt s.data.toList = s := by simp [txt]
/-- A row of bytes of the call's own. -/
def BOwn (w : World) (B : Nat) (v : Value) (l : List UInt8) : Prop := w.ownsRow B 5 1 v l.length (l.map fun b => Value.int .u8 (b.toNat : Int))
theorem Try.infoByte : (Try.prog.info? 5).map (fun i => (i.zero, i.size, i.bytes)) = some (some (.int .u8 0), 1, 1) := by kernel_rfl
theorem BOwn.below {w w' : World} {B : Nat} {v : Value} {l : List UInt8} (h : BOwn w B v l) (hb : Below w.heap.size w w') : BOwn w' B v l := owns_below h hb
/-- append of bytes that were just laid. -/
theorem wpList_append_bytes {w : World} {ops : Array Oper} {rest : List Oper} {o : Oper} {a : Act} {Q : Exit → Act → World → Prop} (hgd : o.guard = none) (s x : Operand)
    (ho : o.op = .call { callee := .builtin .append, args := #[s, x], argTypes := #[84, 84] })
    (B : Nat) (v : Value) (l : List UInt8) (hs : a.eval s = v) (hO : BOwn w B v l)
    (g k : Nat) (bs : List UInt8) (hk : bs.length = k) (hx : a.eval x = .slice (some ⟨g, 0, none⟩) k k) (hX : ∀ j (hj : j < bs.length), w.cell? ((⟨g, 0, none⟩ : Addr).add j) = some (.int .u8 (bs[j].toNat : Int))) (hlen : l.length + k ≤ 16777216) (hB : B ≤ w.heap.size)
    (h : ∀ v' w', BOwn w' B v' (l ++ bs) → Below B w w' → wpList Try.prog ops Q rest (a.put o.dst v') w') : wpList Try.prog ops Q (o :: rest) a w := by
  subst hk
  obtain ⟨i0, hi, hz0, hz1, hz2⟩ := info_parts Try.infoByte
  refine wpList_append_own w hgd s x 84 ho B 5 i0 (.int .u8 0) 1 1 Try.underlying84 hi hz0 hz1 hz2 rfl (by decide) _ l.length _ hs hO ⟨g, 0, none⟩ bs.length bs.length (bs.map fun b => .int .u8 (b.toNat : Int)) hx (by simp) ?_ (by intro u hu; obtain ⟨b, _, rfl⟩ := List.mem_map.1 hu; rfl) (by unfold maxLen; omega) (by omega) hB ?_
  · intro j u hj
    rw [List.getElem?_map] at hj
    rcases Nat.lt_or_ge j bs.length with h1 | h1
    · rw [List.getElem?_eq_getElem h1] at hj
      simp only [Option.map_some, Option.some.injEq] at hj
      subst hj
      exact hX j h1
    · rw [List.getElem?_eq_none h1] at hj; cases hj
  · intro v' w' hown' hgr _
    have hb : Below B w w' := (Below.refl _ _).grown hgr hB (fun k hk => (hO.lt k hk).1)
    refine h v' w' ?_ hb
    unfold BOwn
    rw [List.map_append, List.length_append]
    exact hown'
/-- The text of a row of bytes. -/
theorem BOwn.conv {w : World} {B : Nat} {v : Value} {l : List UInt8} (h : BOwn w B v l) : (convert 84 9 v).run Try.prog w = .ok (.string (txt l)) w := by
  rcases h.2 with ⟨h3, h4⟩ | ⟨g, cap, cur, hv, hg, hh, h5, h6, h7, h8⟩
  · obtain rfl : l = [] := List.length_eq_zero_iff.1 h4
    subst h3
    kernel_rfl
  · subst hv
    refine run_convert_bytes_back (P := Try.prog) w 84 9 5 ⟨g, 0, none⟩ cap l Try.underlying84 Try.underlying5 Try.underlying9 (fun j hj => ?_)
    exact World.ownsRow.cells h (g := g) rfl j (.int .u8 ((l[j]).toNat : Int)) (by rw [List.getElem?_map, List.getElem?_eq_getElem hj]; rfl)
def byteOf (x : Int) : UInt8 := UInt8.ofNat (x % 256).toNat
theorem byteOf_toNat (x : Int) : ((byteOf x).toNat : Int) = x % 256 := by
  unfold byteOf
  rw [UInt8.toNat_ofNat']
  have h1 : 0 ≤ x % 256 := Int.emod_nonneg _ (by omega)
  have h2 : x % 256 < 256 := Int.emod_lt_of_pos _ (by omega)
  omega
/-- A number's bytes, the highest first. -/
def numB (x : Int) : List UInt8 := [byteOf (x / 16777216), byteOf (x / 65536), byteOf (x / 256), byteOf x]
def rowB (r : List Int) : List UInt8 := r.flatMap numB
def gridB (R : List (List Int)) : List UInt8 := R.flatMap rowB
def cubeB (C : List (List (List Int))) : List UInt8 := C.flatMap gridB
theorem rowB_len (r : List Int) : (rowB r).length = 4 * r.length := by
  induction r with
  | nil => rfl
  | cons x r ih => unfold rowB at *; rw [List.flatMap_cons, List.length_append, ih, List.length_cons]; show 4 + _ = _; omega
theorem flat_take {α : Type} (f : α → List UInt8) (l : List α) (k : Nat) (x : α) (h : l[k]? = some x) : (l.take (k + 1)).flatMap f = (l.take k).flatMap f ++ f x := by
  rw [List.take_add_one, h, List.flatMap_append]
  simp
theorem flat_len {α : Type} (f : α → List UInt8) (l : List α) (k : Nat) (x : α) (h : l[k]? = some x) : ((l.take k).flatMap f).length + (f x).length ≤ (l.flatMap f).length := by
  have h1 : l = l.take (k + 1) ++ l.drop (k + 1) := (List.take_append_drop _ _).symm
  have h2 : (l.flatMap f).length = ((l.take (k + 1)).flatMap f).length + ((l.drop (k + 1)).flatMap f).length := by rw [← List.length_append, ← List.flatMap_append, ← h1]
  rw [flat_take f l k x h, List.length_append] at h2
  omega
end Go.Proofs.Ytpplnjmjldhlbaa

/- Package block: addNums. -/
namespace Go.Proofs.Ytpplnjmjldhlbaa
open Go.ChangeShapes Go.WideShapes Go.ChangeAt Go.RowKit
theorem numB_cells (w : World) (x : Int) (j : Nat) (hj : j < (numB x).length) : (w.alloc (.cells #[.int .u8 (x / 16777216 % 256), .int .u8 (x / 65536 % 256), .int .u8 (x / 256 % 256), .int .u8 (x % 256)] 5)).cell? ((⟨w.heap.size, 0, none⟩ : Addr).add j) = some (.int .u8 ((numB x)[j].toNat : Int)) := by
  have e := heap_alloc_new w (.cells #[.int .u8 (x / 16777216 % 256), .int .u8 (x / 65536 % 256), .int .u8 (x / 256 % 256), .int .u8 (x % 256)] 5)
  have h4 : (numB x).length = 4 := rfl
  rw [Addr.add_mid, Nat.zero_add]
  unfold World.cell?
  simp only [e]
  have hj4 : j < 4 := by omega
  match j, hj, hj4 with
  | 0, _, _ => show some (Value.int .u8 (x / 16777216 % 256)) = some (Value.int .u8 ((byteOf (x / 16777216)).toNat : Int)); rw [byteOf_toNat]
  | 1, _, _ => show some (Value.int .u8 (x / 65536 % 256)) = some (Value.int .u8 ((byteOf (x / 65536)).toNat : Int)); rw [byteOf_toNat]
  | 2, _, _ => show some (Value.int .u8 (x / 256 % 256)) = some (Value.int .u8 ((byteOf (x / 256)).toNat : Int)); rw [byteOf_toNat]
  | 3, _, _ => show some (Value.int .u8 (x % 256)) = some (Value.int .u8 ((byteOf x).toNat : Int)); rw [byteOf_toNat]
set_option maxRecDepth 100000 in
set_option maxHeartbeats 3200000 in
theorem addNums_any (w0 : World) (B : Nat) (v : Value) (l : List UInt8) (ao : Option Addr) (m ca : Nat) (C : List (List (List Int))) (w : World) (hO : BOwn w B v l) (hC : CubeAt w0 ao m C) (hB : Below w0.heap.size w0 w) (hB0 : w0.heap.size ≤ B) (hBw : B ≤ w.heap.size) (hlen : l.length + (cubeB C).length ≤ 1000000) :
   Calls Try.prog 41 #[v, .slice ao m ca] w fun e w' => ∃ v', e = .returned v' ∧ BOwn w' B v' (l ++ cubeB C) ∧ Below B w w' := by
  have HC : Hid (CubeAt w0 ao m C) := hC
  have HB : Hid (Below w0.heap.size w0 w) := hB
  have HLN : Hid (C.length = m) := hC.len
  have HLE : Hid (l.length + (cubeB C).length ≤ 1000000) := hlen
  have hmx := hC.max
  have hsw := hBw
  have HB0 : Hid (w0.heap.size ≤ B) := hB0
  clear hC hB hlen hB0 hBw
  go_enter Try.func41, Try.ntmps41
  go_wp2
  go_loopg [0, 13] m (fun r u s13 wr => ∃ (i : Nat) (v : Value), i ≤ m ∧ r = m - i ∧ s13 = .int .i64 (i : Int) ∧ u = v ∧ BOwn wr B v (l ++ cubeB (C.take i)) ∧ Below B w wr)
  case atStart => exact ⟨0, v, by omega, by omega, rfl, rfl, by rw [List.take_zero]; show BOwn _ _ _ (l ++ []); rw [List.append_nil]; exact hO, Below.refl _ _⟩
  case round =>
    clear hO
    obtain ⟨i, u, hi, rfl, rfl, hu, OB, BB⟩ := hrel
    have hu2 := hu.symm
    subst hu2
    clear hu
    by_cases hlt : i < m
    · obtain ⟨b, o, rfl, hc⟩ := HC.out.cells (by omega)
      have hR : C[i]? = some (C[i]'(by rw [HLN.out]; exact hlt)) := List.getElem?_eq_getElem _
      generalize C[i]'(by rw [HLN.out]; exact hlt) = R at hR
      obtain ⟨ro, n, c, k1, k2, k3, k4, G⟩ := hc i R hR
      have B0 := HB.out.trans (BB.mono HB0.out)
      have q1 := cell_keep k1 B0
      have hn := G.max
      have HGL : Hid (R.length = n) := G.len
      have HG : Hid (GridAt w0 ro n R) := G
      have HF1 : Hid (cubeB (C.take (i + 1)) = cubeB (C.take i) ++ gridB R) := flat_take gridB C i R hR
      have HF2 : Hid ((cubeB (C.take i)).length + (gridB R).length ≤ (cubeB C).length) := flat_len gridB C i R hR
      clear hc k1 k2 k3 k4 G hR
      generalize cubeB (C.take i) = P at *
      go_upto_region 5 with fail
      clear q1
      go_loopg [0, 19] n (fun r u s19 wr => ∃ (j : Nat) (v : Value), j ≤ n ∧ r = n - j ∧ s19 = .int .i64 (j : Int) ∧ u = v ∧ BOwn wr B v ((l ++ P) ++ gridB (R.take j)) ∧ Below B w wr)
      case atStart => exact ⟨0, u, by omega, by omega, rfl, rfl, by rw [List.take_zero]; show BOwn _ _ _ ((l ++ P) ++ []); rw [List.append_nil]; exact OB, BB⟩
      case round =>
        clear OB BB B0
        obtain ⟨j, u, hj, rfl, rfl, hu, OB, BB⟩ := hrel
        have hu2 := hu.symm
        subst hu2
        clear hu
        by_cases hjt : j < n
        · obtain ⟨b2, o2, rfl, hc⟩ := HG.out.cells (by omega)
          obtain ⟨r3, l3, c3, s1, A⟩ := hc j hjt
          have B0 := HB.out.trans (BB.mono HB0.out)
          have q1 := cell_keep s1 B0
          have hr : R[j]? = some (rowOf R j) := by
            unfold rowOf
            rw [List.getD_eq_getElem?_getD, List.getElem?_eq_getElem (by rw [HGL.out]; exact hjt)]
            rfl
          have HF3 : Hid (gridB (R.take (j + 1)) = gridB (R.take j) ++ rowB (rowOf R j)) := flat_take rowB R j _ hr
          have HF4 : Hid ((gridB (R.take j)).length + (rowB (rowOf R j)).length ≤ (gridB R).length) := flat_len rowB R j _ hr
          have HA : Hid (Arg w0 r3 l3 c3 (rowOf R j)) := A
          clear hc s1 A hr
          generalize gridB (R.take j) = P2 at *
          generalize rowOf R j = r at *
          have hal := HA.out.row.len
          have hl3 := HA.out.row.max
          have HAL : Hid (r.length = l3) := hal
          clear hal
          go_upto_region 8 with fail
          clear q1
          go_loopg [0, 25] l3 (fun rr u s25 wr => ∃ (k : Nat) (v : Value), k ≤ l3 ∧ rr = l3 - k ∧ s25 = .int .i64 (k : Int) ∧ u = v ∧ BOwn wr B v (((l ++ P) ++ P2) ++ rowB (r.take k)) ∧ Below B w wr)
          case atStart => exact ⟨0, u, by omega, by omega, rfl, rfl, by rw [List.take_zero]; show BOwn _ _ _ (((l ++ P) ++ P2) ++ []); rw [List.append_nil]; exact OB, BB⟩
          case round =>
            clear OB BB B0
            obtain ⟨k, u, hk, rfl, rfl, hu, OB, BB⟩ := hrel
            have hu2 := hu.symm
            subst hu2
            clear hu
            by_cases hkt : k < l3
            · obtain ⟨b3, o3, rfl, hc⟩ := HA.out.row.cells (by omega)
              have q1 := cell_keep (hc k hkt) (HB.out.trans (BB.mono HB0.out))
              have sx := HA.out.row.small k
              have hx : r[k]? = some (el r k) := by
                unfold el
                rw [List.getD_eq_getElem?_getD, List.getElem?_eq_getElem (by rw [HAL.out]; exact hkt)]
                rfl
              have HF5 : Hid (rowB (r.take (k + 1)) = rowB (r.take k) ++ numB (el r k)) := flat_take numB r k _ hx
              have HF6 : Hid ((rowB (r.take k)).length + 4 ≤ (rowB r).length) := flat_len numB r k _ hx
              clear hc hx
              generalize rowB (r.take k) = P3 at *
              generalize el r k = x at *
              have BA : Below wr.heap.size wr (wr.alloc (.cells #[.int .u8 (x / 16777216 % 256), .int .u8 (x / 65536 % 256), .int .u8 (x / 256 % 256), .int .u8 (x % 256)] 5)) := (Below.refl _ _).alloc (Nat.le_refl _) _
              have CN := numB_cells wr x
              have OA := OB.below BA
              have hwl := BB.size
              have hal := BA.size
              have hle := HLE.out
              have hf2 := HF2.out
              have hf4 := HF4.out
              have hf6 := HF6.out
              have DA := BB.trans (BA.mono (Nat.le_trans hsw hwl))
              generalize hwA : wr.alloc (.cells #[.int .u8 (x / 16777216 % 256), .int .u8 (x / 65536 % 256), .int .u8 (x / 256 % 256), .int .u8 (x % 256)] 5) = wA at *
              go_wp2_with (at_builtin; refine wpList_append_bytes rfl _ _ rfl B u _ rfl (by exact OA) wr.heap.size 4 (numB x) rfl rfl (by exact CN) (by simp only [List.length_append]; omega) (by omega) ?_; intro v' w5 O5 B5)
              go_roundg (l3 - (k + 1))
              case measure => omega
              case rel => exact ⟨k + 1, _, by omega, rfl, by go_num, rfl, by rw [HF5.out, ← List.append_assoc]; exact O5, DA.trans B5⟩
            · obtain rfl : l3 = k := by omega
              have HRE : Hid (rowB (r.take l3) = rowB r) := by show _ = _; rw [List.take_of_length_le (by rw [HAL.out]; exact Nat.le_refl _)]
              rw [HRE.out] at OB
              go_wp2_with fail
              go_roundg (n - (j + 1))
              case measure => omega
              case rel => exact ⟨j + 1, _, by omega, rfl, by go_num, rfl, by rw [HF3.out, ← List.append_assoc]; exact OB, BB⟩
        · obtain rfl : n = j := by omega
          have HRE : Hid (gridB (R.take n) = gridB R) := by show _ = _; rw [List.take_of_length_le (by rw [HGL.out]; exact Nat.le_refl _)]
          rw [HRE.out] at OB
          go_wp2_with fail
          go_roundg (m - (i + 1))
          case measure => omega
          case rel => exact ⟨i + 1, _, by omega, rfl, by go_num, rfl, by rw [HF1.out, ← List.append_assoc]; exact OB, BB⟩
    · obtain rfl : m = i := by omega
      have HRE : Hid (cubeB (C.take m) = cubeB C) := by show _ = _; rw [List.take_of_length_le (by rw [HLN.out]; exact Nat.le_refl _)]
      rw [HRE.out] at OB
      go_wp2_with fail
      go_ret
      exact ⟨_, rfl, OB, BB⟩
end Go.Proofs.Ytpplnjmjldhlbaa

/- Package block: Bytes. -/
namespace Go.Proofs.Ytpplnjmjldhlbaa
open Go.ChangeShapes Go.WideShapes Go.ChangeAt Go.RowKit
/-- A page's bytes. -/
def pageB (X : Pg) : List UInt8 := [byteOf (X.T.length : Int), byteOf X.F] ++ X.T.map byteOf ++ cubeB X.K ++ cubeB X.V
theorem bown_two (w : World) (x y : Int) : BOwn (w.alloc (.cells #[.int .u8 (x % 256), .int .u8 (y % 256)] 5)) w.heap.size (.slice (some ⟨w.heap.size, 0, none⟩) 2 2) [byteOf x, byteOf y] := by
  have e := heap_alloc_new w (.cells #[.int .u8 (x % 256), .int .u8 (y % 256)] 5)
  refine ⟨rfl, Or.inr ⟨w.heap.size, 2, _, rfl, Nat.le_refl _, e, by simp, by unfold maxLen; omega, rfl, ?_⟩⟩
  show [Value.int .u8 (x % 256), Value.int .u8 (y % 256)] = [Value.int .u8 ((byteOf x).toNat : Int), Value.int .u8 ((byteOf y).toNat : Int)]
  rw [byteOf_toNat, byteOf_toNat]
theorem one_byte (w : World) (x : Int) (j : Nat) (hj : j < [byteOf x].length) : (w.alloc (.cells #[.int .u8 (x % 256)] 5)).cell? ((⟨w.heap.size, 0, none⟩ : Addr).add j) = some (.int .u8 ([byteOf x][j].toNat : Int)) := by
  have e := heap_alloc_new w (.cells #[.int .u8 (x % 256)] 5)
  rw [Addr.add_mid, Nat.zero_add]
  unfold World.cell?
  simp only [e]
  have hj4 : j < 1 := hj
  match j, hj, hj4 with
  | 0, _, _ => show some (Value.int .u8 (x % 256)) = some (Value.int .u8 ((byteOf x).toNat : Int)); rw [byteOf_toNat]
theorem bown_le {w : World} {B B' : Nat} {v : Value} {l : List UInt8} (h : BOwn w B v l) (hb : B' ≤ B) : BOwn w B' v l := owns_mono h hb (fun _ _ => rfl)
theorem map_take {A : List Int} {k : Nat} (h : k < A.length) : (A.take (k + 1)).map byteOf = (A.take k).map byteOf ++ [byteOf (el A k)] := by
  have e : A[k]? = some (el A k) := by unfold el; rw [List.getD_eq_getElem?_getD, List.getElem?_eq_getElem h]; rfl
  rw [List.take_add_one, e, List.map_append]; rfl
set_option maxRecDepth 100000 in
set_option maxHeartbeats 3200000 in
theorem bytes_bad (Vo D Hd H L : Int) (p : PgV) (X : Pg) (w : World) (hp : PgAt w p X) (hF : -9223372036854775808 ≤ X.F ∧ X.F ≤ 9223372036854775807) (hck : ckN Vo D L X ≠ 0) :
   Calls Try.prog 21 #[.agg (cfgC Vo D Hd H L), .agg p.cells] w fun e w' => e = .returned (.tuple #[.string ⟨#[]⟩, .int .i64 (ckN Vo D L X)]) ∧ Below w.heap.size w w' := by
  have CKA := fun (wv : World) (hb : Below w.heap.size w wv) => check11_any Vo D Hd H L p X wv (hp.below hb) hF
  obtain ⟨⟨ta, tn, tz⟩, F, ⟨ka, kn, kz⟩, ⟨va, vn, vz⟩⟩ := p
  clear hp hF
  rw [show PgV.cells ⟨⟨ta, tn, tz⟩, F, ⟨ka, kn, kz⟩, ⟨va, vn, vz⟩⟩ = #[.slice ta tn tz, .int .i64 F, .slice ka kn kz, .slice va vn vz] from rfl] at CKA ⊢
  rw [show cfgC Vo D Hd H L = #[.int .i64 Vo, .int .i64 D, .int .i64 Hd, .int .i64 H, .int .i64 L] from rfl] at CKA ⊢
  generalize ckN Vo D L X = cn at *
  have X0 := blk_new w 23 #[.int .i64 Vo, .int .i64 D, .int .i64 Hd, .int .i64 H, .int .i64 L]
  have B0 : Below w.heap.size w (w.alloc (.cells #[.int .i64 Vo, .int .i64 D, .int .i64 Hd, .int .i64 H, .int .i64 L] 23)) := (Below.refl _ _).alloc (Nat.le_refl _) _
  have s0 : (w.alloc (.cells #[.int .i64 Vo, .int .i64 D, .int .i64 Hd, .int .i64 H, .int .i64 L] 23)).heap.size = w.heap.size + 1 := by simp
  generalize hw0 : w.alloc (.cells #[.int .i64 Vo, .int .i64 D, .int .i64 Hd, .int .i64 H, .int .i64 L] 23) = w0 at *
  have X1 := blk_new w0 47 #[.slice ta tn tz, .int .i64 F, .slice ka kn kz, .slice va vn vz]
  have B1 : Below w0.heap.size w0 (w0.alloc (.cells #[.slice ta tn tz, .int .i64 F, .slice ka kn kz, .slice va vn vz] 47)) := (Below.refl _ _).alloc (Nat.le_refl _) _
  rw [s0] at X1
  generalize hw1 : w0.alloc (.cells #[.slice ta tn tz, .int .i64 F, .slice ka kn kz, .slice va vn vz] 47) = w1 at *
  replace X0 := X0.below B1
  replace B1 := below_then B0 B1
  have C1 := CKA w1 B1
  have a0 : w1.cell? ⟨w.heap.size, 0, none⟩ = some (.int .i64 Vo) := X0.cell 0 rfl
  have a1 : w1.cell? ⟨w.heap.size, 1, none⟩ = some (.int .i64 D) := X0.cell 1 rfl
  have a2 : w1.cell? ⟨w.heap.size, 2, none⟩ = some (.int .i64 Hd) := X0.cell 2 rfl
  have a3 : w1.cell? ⟨w.heap.size, 3, none⟩ = some (.int .i64 H) := X0.cell 3 rfl
  have a4 : w1.cell? ⟨w.heap.size, 4, none⟩ = some (.int .i64 L) := X0.cell 4 rfl
  have b0 : w1.cell? ⟨w.heap.size + 1, 0, none⟩ = some (.slice ta tn tz) := X1.cell 0 rfl
  have b1 : w1.cell? ⟨w.heap.size + 1, 1, none⟩ = some (.int .i64 F) := X1.cell 1 rfl
  have b2 : w1.cell? ⟨w.heap.size + 1, 2, none⟩ = some (.slice ka kn kz) := X1.cell 2 rfl
  have b3 : w1.cell? ⟨w.heap.size + 1, 3, none⟩ = some (.slice va vn vz) := X1.cell 3 rfl
  have hz : (cn == 0) = false := by simpa using hck
  clear CKA X0 X1
  go_enter Try.func21, Try.ntmps21
  go_wp2_with fail
  refine C1.mono ?_
  rintro e w2 ⟨rfl, B2⟩
  clear hw0 hw1 a0 a1 a2 a3 a4 b0 b1 b2 b3
  go_wp2_with fail
  go_ret2
  exact ⟨rfl, below_then B1 B2⟩
set_option maxRecDepth 100000 in
set_option maxHeartbeats 3200000 in
theorem bytes_ok (Vo D Hd H L : Int) (p : PgV) (X : Pg) (w : World) (hp : PgAt w p X) (hF : -9223372036854775808 ≤ X.F ∧ X.F ≤ 9223372036854775807) (hck : ckN Vo D L X = 0) (hsz : (cubeB X.K).length + (cubeB X.V).length ≤ 900000) :
   Calls Try.prog 21 #[.agg (cfgC Vo D Hd H L), .agg p.cells] w fun e w' => e = .returned (.tuple #[.string (txt (pageB X)), .int .i64 0]) ∧ Below w.heap.size w w' := by
  have CKA := fun (wv : World) (hb : Below w.heap.size w wv) => check11_any Vo D Hd H L p X wv (hp.below hb) hF
  rw [hck] at CKA
  obtain ⟨⟨ta, tn, tz⟩, F, ⟨ka, kn, kz⟩, ⟨va, vn, vz⟩⟩ := p
  have h128 := (plB_true (ck_zero hck).1).2.1
  obtain ⟨T, F', K, V⟩ := X
  have epf : F = F' := hp.f
  subst epf
  simp only at hF hsz h128
  have et : T.length = tn := hp.t.row.len
  have HT : Hid (IArg w ta tn tz T) := hp.t
  have HK : Hid (CubeAt w ka kn K) := hp.k
  have HV : Hid (CubeAt w va vn V) := hp.v
  have HSZ : Hid ((cubeB K).length + (cubeB V).length ≤ 900000) := hsz
  have HPB : Hid (pageB ⟨T, F, K, V⟩ = [byteOf (tn : Int), byteOf F] ++ T.map byteOf ++ cubeB K ++ cubeB V) := by show _ = _; rw [← et]; rfl
  generalize pageB ⟨T, F, K, V⟩ = RB at *
  rw [et] at h128
  have HET : Hid (T.length = tn) := et
  clear hp hck hsz et
  rw [show PgV.cells ⟨⟨ta, tn, tz⟩, F, ⟨ka, kn, kz⟩, ⟨va, vn, vz⟩⟩ = #[.slice ta tn tz, .int .i64 F, .slice ka kn kz, .slice va vn vz] from rfl] at CKA ⊢
  rw [show cfgC Vo D Hd H L = #[.int .i64 Vo, .int .i64 D, .int .i64 Hd, .int .i64 H, .int .i64 L] from rfl] at CKA ⊢
  have X0 := blk_new w 23 #[.int .i64 Vo, .int .i64 D, .int .i64 Hd, .int .i64 H, .int .i64 L]
  have B0 : Below w.heap.size w (w.alloc (.cells #[.int .i64 Vo, .int .i64 D, .int .i64 Hd, .int .i64 H, .int .i64 L] 23)) := (Below.refl _ _).alloc (Nat.le_refl _) _
  have s0 : (w.alloc (.cells #[.int .i64 Vo, .int .i64 D, .int .i64 Hd, .int .i64 H, .int .i64 L] 23)).heap.size = w.heap.size + 1 := by simp
  generalize hw0 : w.alloc (.cells #[.int .i64 Vo, .int .i64 D, .int .i64 Hd, .int .i64 H, .int .i64 L] 23) = w0 at *
  have X1 := blk_new w0 47 #[.slice ta tn tz, .int .i64 F, .slice ka kn kz, .slice va vn vz]
  have B1 : Below w0.heap.size w0 (w0.alloc (.cells #[.slice ta tn tz, .int .i64 F, .slice ka kn kz, .slice va vn vz] 47)) := (Below.refl _ _).alloc (Nat.le_refl _) _
  rw [s0] at X1
  generalize hw1 : w0.alloc (.cells #[.slice ta tn tz, .int .i64 F, .slice ka kn kz, .slice va vn vz] 47) = w1 at *
  replace X0 := X0.below B1
  replace B1 := below_then B0 B1
  have C1 := CKA w1 B1
  have a0 : w1.cell? ⟨w.heap.size, 0, none⟩ = some (.int .i64 Vo) := X0.cell 0 rfl
  have a1 : w1.cell? ⟨w.heap.size, 1, none⟩ = some (.int .i64 D) := X0.cell 1 rfl
  have a2 : w1.cell? ⟨w.heap.size, 2, none⟩ = some (.int .i64 Hd) := X0.cell 2 rfl
  have a3 : w1.cell? ⟨w.heap.size, 3, none⟩ = some (.int .i64 H) := X0.cell 3 rfl
  have a4 : w1.cell? ⟨w.heap.size, 4, none⟩ = some (.int .i64 L) := X0.cell 4 rfl
  have b0 : w1.cell? ⟨w.heap.size + 1, 0, none⟩ = some (.slice ta tn tz) := X1.cell 0 rfl
  have b1 : w1.cell? ⟨w.heap.size + 1, 1, none⟩ = some (.int .i64 F) := X1.cell 1 rfl
  have b2 : w1.cell? ⟨w.heap.size + 1, 2, none⟩ = some (.slice ka kn kz) := X1.cell 2 rfl
  have b3 : w1.cell? ⟨w.heap.size + 1, 3, none⟩ = some (.slice va vn vz) := X1.cell 3 rfl
  clear CKA X0
  go_enter Try.func21, Try.ntmps21
  go_wp2_with fail
  refine C1.mono ?_
  rintro e w2 ⟨rfl, B2⟩
  replace X1 := X1.below B2
  have BB := below_then B1 B2
  clear C1 hw0 hw1 s0 a0 a1 a2 a3 a4 b0 b1 b2 b3 B1 B2 B0
  have b0 : w2.cell? ⟨w.heap.size + 1, 0, none⟩ = some (.slice ta tn tz) := X1.cell 0 rfl
  have b1 : w2.cell? ⟨w.heap.size + 1, 1, none⟩ = some (.int .i64 F) := X1.cell 1 rfl
  have BA : Below w2.heap.size w2 (w2.alloc (.cells #[.int .u8 (tn : Int), .int .u8 (F % 256)] 5)) := (Below.refl _ _).alloc (Nat.le_refl _) _
  have O3 := bown_two w2 (tn : Int) F
  rw [show (tn : Int) % 256 = (tn : Int) by omega] at O3
  have s2 := BB.size
  obtain ⟨u3, hu3⟩ : ∃ u3, u3 = Value.slice (some ⟨w2.heap.size, 0, none⟩) 2 2 := ⟨_, rfl⟩
  generalize hw3 : w2.alloc (.cells #[.int .u8 (tn : Int), .int .u8 (F % 256)] 5) = w3 at *
  have c0 : w2.cell? ⟨w.heap.size + 1, 0, none⟩ = some (.slice ta tn tz) := b0
  go_upto_region 5 with fail
  clear hw3 c0
  rw [← hu3] at O3 ⊢
  clear hu3
  have X3 := X1.below BA
  have HX1 : Hid (Blk w2 (w.heap.size + 1) 47 #[.slice ta tn tz, .int .i64 F, .slice ka kn kz, .slice va vn vz]) := X1
  have HBB : Hid (Below w.heap.size w w2) := BB
  have HS2 : Hid (w.heap.size ≤ w2.heap.size) := s2
  have B3 := BA
  have c0 : w3.cell? ⟨w.heap.size + 1, 0, none⟩ = some (.slice ta tn tz) := X3.cell 0 rfl
  clear b0 b1 X1 BB BA s2 X3
  go_wp2_with fail
  clear c0
  go_loopg [7, 27] tn (fun r u s27 wr => ∃ (k : Nat) (v : Value), k ≤ tn ∧ r = tn - k ∧ s27 = .int .i64 (k : Int) ∧ u = v ∧ BOwn wr w2.heap.size v ([byteOf (tn : Int), byteOf F] ++ (T.take k).map byteOf) ∧ Below w2.heap.size w2 wr)
  case atStart => exact ⟨0, u3, by omega, by omega, rfl, rfl, by rw [List.take_zero]; exact O3, B3⟩
  case round =>
    clear O3 B3
    obtain ⟨k, u, hk, rfl, rfl, hu, OB, BB⟩ := hrel
    have hu2 := hu.symm
    subst hu2
    clear hu
    by_cases hkt : k < tn
    · obtain ⟨b3, o3, rfl, hc⟩ := HT.out.row.cells (by omega)
      have q1 := cell_keep (hc k hkt) (below_then HBB.out BB)
      have HF5 : Hid ((T.take (k + 1)).map byteOf = (T.take k).map byteOf ++ [byteOf (el T k)]) := map_take (by rw [HET.out]; exact hkt)
      have HL5 : Hid (((T.take k).map byteOf).length ≤ 128) := by show _ ≤ _; rw [List.length_map, List.length_take]; omega
      clear hc
      generalize (T.take k).map byteOf = P3 at *
      generalize el T k = x at *
      have BA : Below wr.heap.size wr (wr.alloc (.cells #[.int .u8 (x % 256)] 5)) := (Below.refl _ _).alloc (Nat.le_refl _) _
      have CN := one_byte wr x
      have OA := OB.below BA
      have hwl := BB.size
      have hal := BA.size
      have hl5 := HL5.out
      have DA := below_then BB BA
      generalize hwA : wr.alloc (.cells #[.int .u8 (x % 256)] 5) = wA at *
      go_wp2_with (at_builtin; refine wpList_append_bytes rfl _ _ rfl w2.heap.size u _ rfl (by exact OA) wr.heap.size 1 [byteOf x] rfl rfl (by exact CN) (by simp only [List.length_append]; simp; omega) (by omega) ?_; intro v' w5 O5 B5)
      go_roundg (tn - (k + 1))
      case measure => omega
      case rel => exact ⟨k + 1, _, by omega, rfl, by go_num, rfl, by rw [HF5.out, ← List.append_assoc]; exact O5, DA.trans B5⟩
    · obtain rfl : tn = k := by omega
      have HRE : Hid ((T.take tn).map byteOf = T.map byteOf) := by show _ = _; rw [List.take_of_length_le (by rw [HET.out]; exact Nat.le_refl _)]
      rw [HRE.out] at OB
      go_upto_region 10 with fail
      have BD : Below wr.heap.size wr wr.drew := (Below.refl _ wr).drew
      have X1 := HX1.out.below BB
      have XD := X1.below BD
      have OD := OB.below BD
      have DD := below_then BB BD
      have hs2 := HS2.out
      have hsD := DD.size
      refine wp_region_held_drew (S := fun w' => Blk w' (w.heap.size + 1) 47 #[.slice ta tn tz, .int .i64 F, .slice ka kn kz, .slice va vn vz]) (by kernel_rfl) (XD) (fun hHeld => ?_)
      generalize hA : wr.drew = wA at *
      clear hA X1 OB BB BD
      refine wpAnyH_take (i := 0) (v := u) rfl (by kernel_rfl) (by kernel_rfl) (by kernel_rfl) (fun _ _ _ h => h) (Or.inl ⟨by rfl, ?_⟩) (by assumption) ?_
      · intro w' hSw
        go_simp
      simp only [List.getElem_toArray, List.getElem_cons_zero, Act.put, List.setIfInBounds_toArray, List.set_cons_zero, List.set_cons_succ]
      refine wpAnyH_take (i := 1) (v := (.pointer (some ⟨w.heap.size + 1, 2, none⟩))) rfl (by kernel_rfl) (by kernel_rfl) (by kernel_rfl) (fun _ _ _ h => h) (Or.inl ⟨by rfl, ?_⟩) (by assumption) ?_
      · intro w' hSw
        go_simp
      simp only [List.getElem_toArray, List.getElem_cons_succ, List.getElem_cons_zero, Act.put, List.setIfInBounds_toArray, List.set_cons_zero, List.set_cons_succ]
      refine wpAnyH_take (i := 2) (v := (.pointer (some ⟨w.heap.size + 1, 2, none⟩))) rfl (by kernel_rfl) (by kernel_rfl) (by kernel_rfl) (fun _ _ _ h => h) (Or.inl ⟨by rfl, ?_⟩) (by assumption) ?_
      · intro w' hSw
        go_simp
      simp only [List.getElem_toArray, List.getElem_cons_succ, List.getElem_cons_zero, Act.put, List.setIfInBounds_toArray, List.set_cons_zero, List.set_cons_succ]
      refine wpAnyH_take (i := 3) (v := (.slice ka kn kz)) rfl (by kernel_rfl) (by kernel_rfl) (by kernel_rfl) (fun _ _ _ h => h) (Or.inl ⟨by rfl, ?_⟩) (by assumption) ?_
      · intro w' hSw
        have c0 : w'.cell? ⟨w.heap.size + 1, 2, none⟩ = some (.slice ka kn kz) := hSw.cell 2 rfl
        go_simp
      simp only [List.getElem_toArray, List.getElem_cons_succ, List.getElem_cons_zero, Act.put, List.setIfInBounds_toArray, List.set_cons_zero, List.set_cons_succ]
      refine wpAnyH_take (i := 5) (v := (.pointer (some ⟨w.heap.size + 1, 2, none⟩))) rfl (by kernel_rfl) (by kernel_rfl) (by kernel_rfl) (fun _ _ _ h => h) (Or.inl ⟨by rfl, ?_⟩) (by assumption) ?_
      · intro w' hSw
        go_simp
      simp only [List.getElem_toArray, List.getElem_cons_succ, List.getElem_cons_zero, Act.put, List.setIfInBounds_toArray, List.set_cons_zero, List.set_cons_succ]
      refine wpAnyH_take (i := 6) (v := (.pointer (some ⟨w.heap.size + 1, 3, none⟩))) rfl (by kernel_rfl) (by kernel_rfl) (by kernel_rfl) (fun _ _ _ h => h) (Or.inl ⟨by rfl, ?_⟩) (by assumption) ?_
      · intro w' hSw
        go_simp
      simp only [List.getElem_toArray, List.getElem_cons_succ, List.getElem_cons_zero, Act.put, List.setIfInBounds_toArray, List.set_cons_zero, List.set_cons_succ]
      refine wpAnyH_take (i := 7) (v := (.slice va vn vz)) rfl (by kernel_rfl) (by kernel_rfl) (by kernel_rfl) (fun _ _ _ h => h) (Or.inl ⟨by rfl, ?_⟩) (by assumption) ?_
      · intro w' hSw
        have c0 : w'.cell? ⟨w.heap.size + 1, 3, none⟩ = some (.slice va vn vz) := hSw.cell 3 rfl
        go_simp
      simp only [List.getElem_toArray, List.getElem_cons_succ, List.getElem_cons_zero, Act.put, List.setIfInBounds_toArray, List.set_cons_zero, List.set_cons_succ]
      have hsz := HSZ.out
      have hl9 : (List.map byteOf T).length = tn := by rw [List.length_map]; exact HET.out
      refine wpAnyH_ready (rs := [4]) (by kernel_rfl) (by simp) ?_
      refine AllReadyH.cons rfl (fun Kc hKc => ?_) AllReadyH.nil
      simp only [List.getElem_toArray, List.getElem_cons_succ, List.getElem_cons_zero]
      rw [if_pos (by rfl)]
      go_wp2_with fail
      refine (addNums_any w w2.heap.size u _ ka kn kz K wA OD HK.out (below_then HBB.out DD) hs2 hsD (by simp only [List.length_append, List.length_cons, List.length_nil, hl9]; omega)).mono ?_
      rintro e w4 ⟨u4, rfl, O4, B4⟩
      have X4 : Blk w4 (w.heap.size + 1) 47 #[.slice ta tn tz, .int .i64 F, .slice ka kn kz, .slice va vn vz] := XD.of_block (B4.block _ HX1.out.lt)
      have D4 := DD.trans B4
      go_wp2_with fail
      refine hKc.out _ _ (X4) (fun hHeld => ?_)
      clear hKc Kc
      refine wpAnyH_ready (rs := [8]) (by kernel_rfl) (by simp) ?_
      refine AllReadyH.cons rfl (fun Kc hKc => ?_) AllReadyH.nil
      simp only [List.getElem_toArray, List.getElem_cons_succ, List.getElem_cons_zero]
      rw [if_pos (by rfl)]
      go_wp2_with fail
      refine (addNums_any w w2.heap.size u4 _ va vn vz V w4 O4 HV.out (below_then HBB.out D4) hs2 D4.size (by simp only [List.length_append, List.length_cons, List.length_nil, hl9]; omega)).mono ?_
      rintro e w5 ⟨u5, rfl, O5, B5⟩
      have X5 : Blk w5 (w.heap.size + 1) 47 #[.slice ta tn tz, .int .i64 F, .slice ka kn kz, .slice va vn vz] := X4.of_block (B5.block _ HX1.out.lt)
      have D5 := D4.trans B5
      go_wp2_with fail
      refine hKc.out _ _ (X5) (fun hHeld => ?_)
      clear hKc Kc
      have hcv := O5.conv
      refine wpAnyH_ready (rs := [9]) (by kernel_rfl) (by simp) ?_
      refine AllReadyH.cons rfl (fun Kc hKc => ?_) AllReadyH.nil
      simp only [List.getElem_toArray, List.getElem_cons_succ, List.getElem_cons_zero]
      rw [if_pos (by rfl)]
      go_wp2_with fail
      refine hKc.out _ _ X5 (fun hHeld => ?_)
      clear hKc Kc hcv
      refine wpAnyH_ready (rs := [10]) (by kernel_rfl) (by simp) ?_
      refine AllReadyH.cons rfl (fun Kc hKc => ?_) AllReadyH.nil
      simp only [List.getElem_toArray, List.getElem_cons_succ, List.getElem_cons_zero]
      rw [if_pos (by rfl)]
      go_wp2_with fail
      refine hKc.out _ _ X5 (fun hHeld => ?_)
      clear hKc Kc
      refine wpAnyH_ready (rs := [11]) (by kernel_rfl) (by simp) ?_
      refine AllReadyH.cons rfl (fun Kc hKc => ?_) AllReadyH.nil
      simp only [List.getElem_toArray, List.getElem_cons_succ, List.getElem_cons_zero]
      rw [if_pos (by rfl)]
      go_wp2_with fail
      refine hKc.out _ _ X5 (fun hHeld => ?_)
      clear hKc Kc
      refine wpAnyH_done (by kernel_rfl) ?_ _
      go_wp2_with fail
      go_ret2
      refine ⟨?_, below_then HBB.out D5⟩
      show Ending.returned (.tuple #[.string (txt (byteOf (tn : Int) :: byteOf F :: (List.map byteOf T ++ (cubeB K ++ cubeB V)))), .int .i64 0]) = _
      rw [HPB.out]
      simp
end Go.Proofs.Ytpplnjmjldhlbaa
