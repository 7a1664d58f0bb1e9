/- The given statement on TillerPaged: at every input the law returns true and its arguments read as before; the listed table lies as the program's text lays it (the card ties it). -/
import Derived.Test.YtcanjlofnpnhkaaGreatDoorPk12
import Derived.Test.YtcanjlofnpnhkaaGreatDoorPk13
import Derived.Test.YtcanjlofnpnhkaaGreatDoorPk11
import Derived.Test.YtcanjlofnpnhkaaGreatDoorPk8
import Derived.Test.YtcanjlofnpnhkaaGreatDoorRows
import Derived.Test.YtcanjlofnpnhkaaGreatDoorCards
import Derived.Test.YtcanjlofnpnhkaaGreatDoorTie
import Derived.Test.YtcanjlofnpnhkaaGreatDoorPk4
import Derived.ProofKit
import Derived.Carry
import Derived.LaidMore
import Derived.OpenShut
import Derived.Stop.Joined
import Derived.SevenTiedAt
/- A view's pages in a pool: the walk. Laid by tools/gentp.py. -/
namespace Go.Proofs.YtcanjlofnpnhkaaGreatDoor
open Go.ChangeShapes Go.WideShapes Go.ChangeAt Go.RowKit Go.Deep
theorem yields_rowJ {ops : Array Oper} {S : World → Prop} {op : Oper} {a : Act} (hw : Region.wanted op (yielded ops a.tmps) = true) (ty : TypeId) (x : Operand) (ho : op.op = .load ty x)
    (g : Nat) (hx : a.eval x = .pointer (some ⟨g, 0, none⟩)) (T : TypeId) (cs : Array Value) (d : TypeDesc) (hS : ∀ w, S w → Blk w g T cs) (hu : Tryz.prog.underlying ty = some d) (hd : d.isRow = true) (hi : (Tryz.prog.info? ty).map (·.size) = some cs.size) :
    YieldsIf Tryz.prog ops S op (.agg cs) a := by
  have := yieldsIf_load_mid (P := Tryz.prog) (S := S) hw ty x ho g 0 hx cs.toList d (fun w h j v hv => by rw [Nat.zero_add]; exact (hS w h).cell j (by simpa using hv)) hu hd (by simpa using hi)
  simpa using this
theorem ownPg_empty (w : World) (s : Nat) : OwnPg (w.alloc (.cells #[] 30)) w.heap.size s (.slice (some ⟨w.heap.size, 0, none⟩) 0 0) [] :=
  ⟨[], ⟨rfl, Or.inr ⟨w.heap.size, 0, #[], rfl, Nat.le_refl _, heap_alloc_new _ _, Nat.le_refl _, by decide, rfl, rfl⟩⟩, rfl, fun t X h => by simp at h⟩
theorem strZ (w : World) : (zeroValue 9).run Tryz.prog w = .ok (Value.string ⟨#[]⟩) w := by kernel_rfl
set_option maxRecDepth 100000 in
set_option maxHeartbeats 32000000 in
theorem tillerPaged_walk (C : Cfg) (sd : Int) (a1 : Option Addr) (n1 c1 : Nat) (Z1 : List Int) (mo : Int) (w : World) (hC : C.Ok) (bs : 0 ≤ sd ∧ sd ≤ 18446744073709551615) (h1 : IArg w a1 n1 c1 Z1) (bmo : -9223372036854775808 ≤ mo ∧ mo ≤ 9223372036854775807) (hT : Tab w) :
   Calls Tryz.prog 3 #[C.val, .int .u64 sd, .slice a1 n1 c1, .int .i64 mo] w fun e w' => e = .returned (.bool true) ∧ Below w.heap.size w w' := by
  obtain ⟨seed, rfl⟩ : ∃ n : Nat, sd = n := ⟨sd.toNat, by omega⟩
  have hsd : seed < 18446744073709551616 := by omega
  clear bs
  have HT : Hid (∀ wv, Below w.heap.size w wv → Tab wv) := fun wv hb => hT.next hb
  have CF1 := fun (wv : World) (hb : Below w.heap.size w wv) => few8_any a1 n1 c1 Z1 8 wv (h1.below hb) (by omega)
  have sml : ∀ k, -9223372036854775808 ≤ el (Z1.take 8) k ∧ el (Z1.take 8) k ≤ 9223372036854775807 := fun k => by
    rcases Nat.lt_or_ge k 8 with h | h
    · rw [el_take h]; exact h1.row.small k
    · rw [el_over (by rw [List.length_take]; omega)]; omega
  have hP8 : (Z1.take 8).length ≤ 8 := by rw [List.length_take]; omega
  have M0 := fun wv => make_gen C hC seed hsd wv
  have CS := fun wv => small8_any C.V C.D C.Hd C.H C.L wv
  have RS := fun wv => read_short C.V C.D C.Hd C.H C.L [] wv (by decide)
  rw [show txt [] = (⟨#[]⟩ : ByteArray) from rfl] at RS
  unfold noP at RS
  have NW := fun wv => Pl.pnew_any 4 wv (by omega) (by omega)
  rw [show ((4 : Nat) : Int) = 4 from rfl] at NW
  have hu : ∀ C : Cfg, cfgC C.V C.D C.Hd C.H C.L = #[.int .i64 C.V, .int .i64 C.D, .int .i64 C.Hd, .int .i64 C.H, .int .i64 C.L] := fun _ => rfl
  unfold Cfg.val at *
  rw [hu] at M0 CS RS ⊢
  clear hT h1 hC
  have X0 := blk_new w 23 #[.int .i64 C.V, .int .i64 C.D, .int .i64 C.Hd, .int .i64 C.H, .int .i64 C.L]
  have B0 : Below w.heap.size w (w.alloc (.cells #[.int .i64 C.V, .int .i64 C.D, .int .i64 C.Hd, .int .i64 C.H, .int .i64 C.L] 23)) := (Below.refl _ _).alloc (Nat.le_refl _) _
  generalize hw0 : w.alloc (.cells #[.int .i64 C.V, .int .i64 C.D, .int .i64 C.Hd, .int .i64 C.H, .int .i64 C.L] 23) = w0 at *
  go_enter Tryz.func3, Tryz.ntmps3
  go_wp2_with (refine wpList_load_row rfl 23 _ rfl w.heap.size rfl 23 #[.int .i64 C.V, .int .i64 C.D, .int .i64 C.Hd, .int .i64 C.H, .int .i64 C.L] (0, 0) _ X0 Tryz.underlying23 rfl Tryz.infoC ?_)
  refine (RS _).mono ?_
  rintro e wr0 ⟨rfl, Br⟩
  replace X0 := X0.below Br
  have D0 := below_then B0 Br
  clear B0 Br hw0 RS
  obtain ⟨Z9, X9, BV, _⟩ := var3 wr0 30 #[.slice none 0 0, .int .i64 0, .slice none 0 0, .slice none 0 0] #[.slice none 0 0, .int .i64 0, .slice none 0 0, .slice none 0 0]
  generalize hz1 : wr0.alloc (.cells #[.slice none 0 0, .int .i64 0, .slice none 0 0, .slice none 0 0] 30) = wz at *
  generalize hz2 : wz.setRow wr0.heap.size #[.slice none 0 0, .int .i64 0, .slice none 0 0, .slice none 0 0] = w0b at *
  replace X0 := X0.below BV
  replace D0 := below_then D0 BV
  clear BV X9
  go_wp2_with (refine wpList_store_row rfl 30 _ _ rfl wr0.heap.size #[.slice none 0 0, .int .i64 0, .slice none 0 0, .slice none 0 0] rfl rfl 30 _ Z9 Tryz.infoPg rfl (by simp [Value.oneCell']) ?_; rw [hz2])
  clear hz1 hz2 Z9
  refine (CF1 _ D0).mono ?_
  rintro e w1 ⟨b1, kq, rfl, O1, B1⟩
  generalize Z1.take 8 = P at *
  obtain ⟨l1, hl1⟩ : ∃ l1, P.length = l1 := ⟨_, rfl⟩
  have HL1 : Hid (P.length = l1) := hl1
  rw [hl1] at O1 hP8 ⊢
  clear hl1
  have D1 := below_then D0 B1
  replace X0 := X0.below B1
  clear CF1 D0 B1
  obtain ⟨x1, y1, e1, I1⟩ := IOwn.arg O1 sml
  simp only [Value.slice.injEq, true_and] at e1
  obtain ⟨rfl, rfl⟩ := e1
  clear O1
  go_wp2_with (refine wpList_load_row rfl 23 _ rfl w.heap.size rfl 23 #[.int .i64 C.V, .int .i64 C.D, .int .i64 C.Hd, .int .i64 C.H, .int .i64 C.L] (0, 0) _ X0 Tryz.underlying23 rfl Tryz.infoC ?_)
  refine (M0 w1).mono ?_
  rintro e w2 ⟨ws, q, rfl, MM, B2⟩
  replace X0 := X0.below B2
  replace I1 := I1.below B2
  have D2 := below_then D1 B2
  clear B2 D1 M0
  have siz := MM.size
  have one := MM.one
  have XZ := blk_new w2 40 #[.int .i64 0, .int .i64 0, .slice none 0 0, .slice none 0 0, .slice none 0 0, .int .i64 0, .int .i64 0, .slice none 0 0]
  have BZ : Below w2.heap.size w2 (w2.alloc (.cells #[.int .i64 0, .int .i64 0, .slice none 0 0, .slice none 0 0, .slice none 0 0, .int .i64 0, .int .i64 0, .slice none 0 0] 40)) := (Below.refl _ _).alloc (Nat.le_refl _) _
  generalize hwz : w2.alloc (.cells #[.int .i64 0, .int .i64 0, .slice none 0 0, .slice none 0 0, .slice none 0 0, .int .i64 0, .int .i64 0, .slice none 0 0] 40) = wz at *
  have X1 := XZ.row ws
  have BR := below_setRow BZ (Nat.le_refl _) ws
  generalize hwy : wz.setRow w2.heap.size ws = wy at *
  replace X0 := X0.below BR
  replace I1 := I1.below BR
  replace MM := MM.below BR
  have D3 := below_then D2 BR
  clear D2 BR BZ
  have hbp := X0.lt
  go_wp2_with (refine wpList_store_row rfl 40 _ _ rfl w2.heap.size ws rfl rfl 40 _ XZ (by rw [siz]; exact Tryz.infoW) (by rw [siz]; rfl) one ?_; rw [hwy])
  clear hwz hwy XZ
  refine (NW _).mono ?_
  rintro e wp ⟨rfl, PA0, Bp⟩
  replace X0 := X0.below Bp
  replace X1 := X1.below Bp
  replace I1 := I1.below Bp
  replace MM := MM.below Bp
  have D4 := below_then D3 Bp
  have hsp := PA0.size
  clear Bp D3 NW
  by_cases hq : q = 0
  rotate_left
  · have hq' : (q == 0) = false := by simpa using hq
    go_wp2_with fail
    go_ret
    exact ⟨rfl, D4⟩
  subst hq
  obtain ⟨V, D, Hd, H, L, ge, gB, gl, go, e1, e2, e3, e4, e5, hcs, MW⟩ := MM.ok rfl
  have hsh : shapeN V D Hd H L = 0 := by rw [← e1, ← e2, ← e3, ← e4, ← e5]; exact MM.err.symm
  obtain ⟨bs, GD⟩ := made_good (Hd := Hd) MW hsh
  have hws : (mkW V D L ge gB gl go).cells = ws := by rw [hcs]; rfl
  obtain ⟨VV, DD, HHd, HH, LL⟩ := C
  simp only at e1 e2 e3 e4 e5
  subst e1 e2 e3 e4 e5
  have hk := shape_ok hsh
  have GD2 : Good wp V D Hd H L (mkW V D L ge gB gl go) bs (mdlS seed V D H L) := GD
  generalize mdlS seed V D H L = M at *
  generalize hWW : mkW V D L ge gB gl go = WW at *
  clear MM MW hcs GD hWW
  have AO := fun (vv : VwV) (X : Vw) (ao : Option Addr) (n ca : Nat) (A : List Int) (wv : World) (g1 : Tab wv) (g2 : Good wv V D Hd H L WW bs M) (g3 : VwAt wv vv X) (g4 : VwFit V D L X) (g5 : IArg wv ao n ca A) (g6 : promptN V A = 0) (g7 : X.T.length + A.length ≤ 128) => all_ok V D Hd H L WW bs M vv X ao n ca A wv g1 g2 g3 g4 g5 g6 g7
  have AB := fun (cv : Array Value) (ao : Option Addr) (n ca : Nat) (A : List Int) (wv : World) (g5 : IArg wv ao n ca A) (g6 : promptN V A ≠ 0) => all_bad V D Hd H L ws cv ao n ca A wv g5 g6
  rw [hws] at AO
  unfold cfgC at AO AB
  clear hws
  have a0 : wp.cell? ⟨w.heap.size, 0, none⟩ = some (.int .i64 (V : Int)) := X0.cell 0 rfl
  have a1 : wp.cell? ⟨w.heap.size, 1, none⟩ = some (.int .i64 (D : Int)) := X0.cell 1 rfl
  have a2 : wp.cell? ⟨w.heap.size, 2, none⟩ = some (.int .i64 (Hd : Int)) := X0.cell 2 rfl
  have a3 : wp.cell? ⟨w.heap.size, 3, none⟩ = some (.int .i64 (H : Int)) := X0.cell 3 rfl
  have a4 : wp.cell? ⟨w.heap.size, 4, none⟩ = some (.int .i64 (L : Int)) := X0.cell 4 rfl
  go_wp2_with fail
  refine (CS _).mono ?_
  rintro e w4 ⟨rfl, B4⟩
  clear a0 a1 a2 a3 a4 CS
  replace X0 := X0.below B4
  replace X1 := X1.below B4
  have AP := I1.below B4
  have G4 := GD2.below B4
  have D5 := below_then D4 B4
  have HBp : Hid (Below wp.heap.size wp w4) := B4
  clear D4 B4 I1 GD2
  generalize smallN (D : Int) (H : Int) (L : Int) = sq at *
  by_cases hs0 : sq = 0
  · subst hs0
    go_wp2_with fail
    go_ret
    exact ⟨rfl, D5⟩
  have hs0' : (sq == 0) = false := by simpa using hs0
  by_cases hqa : promptN V P = 0
  rotate_left
  · have A6 := AB #[.slice none 0 0, .slice none 0 0, .slice none 0 0] (some ⟨b1, 0, none⟩) l1 kq P w4 AP hqa
    unfold noV at A6
    generalize promptN V P = pq at *
    have hqb : (pq == 0) = false := by simpa using hqa
    go_wp2_with (first | (refine wpList_load_row rfl 23 _ rfl w.heap.size rfl 23 #[.int .i64 (V : Int), .int .i64 (D : Int), .int .i64 (Hd : Int), .int .i64 (H : Int), .int .i64 (L : Int)] (0, 0) _ X0 Tryz.underlying23 rfl Tryz.infoC ?_) | (refine wpList_load_row rfl 40 _ rfl w2.heap.size rfl 40 ws (0, 0) _ X1 Tryz.underlying40 rfl (by rw [siz]; exact Tryz.infoW) ?_))
    refine A6.mono ?_
    rintro e w6 ⟨rfl, B6⟩
    clear A6
    replace X0 := X0.below B6
    have D6 := below_then D5 B6
    obtain ⟨Z9, X9, BV, _⟩ := var3 w6 48 #[.slice none 0 0, .slice none 0 0, .slice none 0 0] #[.slice none 0 0, .slice none 0 0, .slice none 0 0]
    generalize hz1 : w6.alloc (.cells #[.slice none 0 0, .slice none 0 0, .slice none 0 0] 48) = wz at *
    generalize hz2 : wz.setRow w6.heap.size #[.slice none 0 0, .slice none 0 0, .slice none 0 0] = w7 at *
    replace X0 := X0.below BV
    replace D6 := below_then D6 BV
    clear BV
    have SG := split_any V D Hd H L ⟨⟨none, 0, 0⟩, ⟨none, 0, 0⟩, ⟨none, 0, 0⟩⟩ noX 2 w7 (noV_at _) (noX_fit _ _ _) (by omega) (by omega) (by omega) (by omega)
    rw [show pageN noX.T.length 2 = 0 from pageN_zero (by omega)] at SG
    unfold cfgC at SG
    rw [show VwV.cells ⟨⟨none, 0, 0⟩, ⟨none, 0, 0⟩, ⟨none, 0, 0⟩⟩ = #[.slice none 0 0, .slice none 0 0, .slice none 0 0] from rfl, show ((2 : Nat) : Int) = 2 from rfl] at SG
    go_wp2_with (first | (refine wpList_store_row rfl 48 _ _ rfl w6.heap.size #[.slice none 0 0, .slice none 0 0, .slice none 0 0] rfl rfl 48 _ Z9 Tryz.infoV rfl (by simp [Value.oneCell']) ?_; rw [hz2]) | (refine wpList_load_row rfl 23 _ rfl w.heap.size rfl 23 #[.int .i64 (V : Int), .int .i64 (D : Int), .int .i64 (Hd : Int), .int .i64 (H : Int), .int .i64 (L : Int)] (0, 0) _ X0 Tryz.underlying23 rfl Tryz.infoC ?_) | (refine wpList_load_row rfl 48 _ rfl w6.heap.size rfl 48 #[.slice none 0 0, .slice none 0 0, .slice none 0 0] (0, 0) _ X9 Tryz.underlying48 rfl Tryz.infoV ?_))
    refine SG.mono ?_
    rintro e wa ⟨ga, gc, rfl, _, Ba⟩
    have Da := below_then D6 Ba
    clear hz1 hz2 Z9 X9 X0 SG
    have hqn : (pq != 0) = true := by simp [bne, hqb]
    go_wp2_with fail
    go_ret
    exact ⟨rfl, Da⟩
  obtain ⟨pp1, pp2, pp3⟩ := prompt_ok hqa
  have hL1 := HL1.out
  obtain ⟨q1, q2, q3, q4, q5, q6, q7, q8, q9, q10⟩ := hk
  have hfit : VwFit (V : Int) D L (feedAll M D H Hd L noX P) := feedAll_fit (noX_fit _ _ _) pp3 (by show 0 + _ ≤ _; omega)
  have EM := (feed_full (M := M) (H := H) (Hd := Hd) pp3 pp1 pp2 (noX_fit (V : Int) D L)).1
  have A6 := AO ⟨⟨none, 0, 0⟩, ⟨none, 0, 0⟩, ⟨none, 0, 0⟩⟩ noX (some ⟨b1, 0, none⟩) l1 kq P w4 (HT.out _ D5) G4 (noV_at _) (noX_fit _ _ _) AP hqa (by show 0 + _ ≤ _; omega)
  unfold VwV.cells Sl.v at A6
  simp only at A6
  have hXT : (feedAll M D H Hd L noX P).T.length = l1 := by rw [EM]; exact hL1
  obtain ⟨X, hXe⟩ : ∃ X, X = feedAll M D H Hd L noX P := ⟨_, rfl⟩
  rw [← hXe] at A6 hfit hXT
  generalize likAt M V D H Hd L noX P P.length = LK at *
  clear hXe EM AO AB pp1 pp2 pp3 hqa hL1 AP G4
  have hD32 : D ≤ 32 := by omega
  have hL4 : L ≤ 4 := by omega
  have hV64 : V ≤ 64 := by omega
  clear q1 q2 q3 q4 q5 q6 q7 q8 q9 q10
  go_wp2_with (first | (refine wpList_load_row rfl 23 _ rfl w.heap.size rfl 23 #[.int .i64 (V : Int), .int .i64 (D : Int), .int .i64 (Hd : Int), .int .i64 (H : Int), .int .i64 (L : Int)] (0, 0) _ X0 Tryz.underlying23 rfl Tryz.infoC ?_) | (refine wpList_load_row rfl 40 _ rfl w2.heap.size rfl 40 ws (0, 0) _ X1 Tryz.underlying40 rfl (by rw [siz]; exact Tryz.infoW) ?_))
  refine A6.mono ?_
  rintro e w6 ⟨⟨⟨ta, tn, tz⟩, ⟨ka, kn, kz⟩, ⟨va, vn, vz⟩⟩, g6, rfl, N6, F6, B6⟩
  try simp only at N6
  clear A6 F6 X1
  replace X0 := X0.below B6
  have D6 := below_then D5 B6
  have h46 := B6.size
  have HB6 : Hid (Below w4.heap.size w4 w6) := B6
  clear D5 B6
  obtain ⟨Z9, XV, BV, _⟩ := var3 w6 48 #[.slice none 0 0, .slice none 0 0, .slice none 0 0] #[.slice ta tn tz, .slice ka kn kz, .slice va vn vz]
  generalize hz1 : w6.alloc (.cells #[.slice none 0 0, .slice none 0 0, .slice none 0 0] 48) = wz at *
  generalize hz2 : wz.setRow w6.heap.size #[.slice ta tn tz, .slice ka kn kz, .slice va vn vz] = w6f at *
  replace X0 := X0.below BV
  replace N6 := N6.below BV
  replace D6 := below_then D6 BV
  have HBV : Hid (Below w6.heap.size w6 w6f) := BV
  have h66 := BV.size
  clear BV
  have VW := N6.now
  have SG := split_any V D Hd H L ⟨⟨ta, tn, tz⟩, ⟨ka, kn, kz⟩, ⟨va, vn, vz⟩⟩ X 2 w6f VW hfit (by omega) (by omega) (by omega) (by omega)
  unfold cfgC at SG
  rw [show VwV.cells ⟨⟨ta, tn, tz⟩, ⟨ka, kn, kz⟩, ⟨va, vn, vz⟩⟩ = #[.slice ta tn tz, .slice ka kn kz, .slice va vn vz] from rfl, show ((2 : Nat) : Int) = 2 from rfl] at SG
  obtain ⟨NP, hNP⟩ : ∃ NP, pageN X.T.length 2 = NP := ⟨_, rfl⟩
  rw [hNP] at SG
  have HNP : Hid (NP = pageN X.T.length 2) := hNP.symm
  rw [hXT] at hNP
  have hNP4 : NP ≤ 4 := by rw [← hNP]; unfold pageN; omega
  have HXT : Hid (X.T.length = l1) := hXT
  clear hNP hXT VW
  go_wp2_with (first | (refine wpList_store_row rfl 48 _ _ rfl w6.heap.size #[.slice ta tn tz, .slice ka kn kz, .slice va vn vz] rfl rfl 48 _ Z9 Tryz.infoV rfl (by simp [Value.oneCell']) ?_; rw [hz2]) | (refine wpList_load_row rfl 23 _ rfl w.heap.size rfl 23 #[.int .i64 (V : Int), .int .i64 (D : Int), .int .i64 (Hd : Int), .int .i64 (H : Int), .int .i64 (L : Int)] (0, 0) _ X0 Tryz.underlying23 rfl Tryz.infoC ?_) | (refine wpList_load_row rfl 48 _ rfl w6.heap.size rfl 48 #[.slice ta tn tz, .slice ka kn kz, .slice va vn vz] (0, 0) _ XV Tryz.underlying48 rfl Tryz.infoV ?_))
  refine SG.mono ?_
  rintro e w7 ⟨ga, gc, rfl, N7, B7⟩
  clear hz1 hz2 Z9 SG
  have hxv := XV.lt
  have hx0 := X0.lt
  replace X0 := X0.below B7
  replace XV := XV.below B7
  replace N6 := N6.below B7
  have D7 := below_then D6 B7
  have h67 := B7.size
  have hwp4 := HBp.out.size
  have HST : Hid (∀ wv : World, (∀ k, (k < wy.heap.size ∨ wp.heap.size ≤ k) → k < w7.heap.size → wv.heap[k]? = w7.heap[k]?) → Blk wv w.heap.size 23 #[.int .i64 (V : Int), .int .i64 (D : Int), .int .i64 (Hd : Int), .int .i64 (H : Int), .int .i64 (L : Int)] ∧ Blk wv w6.heap.size 48 #[.slice ta tn tz, .slice ka kn kz, .slice va vn vz] ∧ VwAt wv ⟨⟨ta, tn, tz⟩, ⟨ka, kn, kz⟩, ⟨va, vn, vz⟩⟩ X) := fun wv hk => ⟨X0.of_block (hk _ (Or.inl hbp) X0.lt), XV.of_block (hk _ (Or.inr (by omega)) XV.lt), N6 wv (fun b h1 h2 => hk b (Or.inr (by have h1' : w4.heap.size ≤ b := h1; omega)) h2)⟩
  have HPG : Hid (∀ k, k < NP → ∃ g o, ga = some ⟨g, o, none⟩ ∧ ∃ p : PgV, ∀ wv : World, (∀ k, (k < wy.heap.size ∨ wp.heap.size ≤ k) → k < w7.heap.size → wv.heap[k]? = w7.heap[k]?) → wv.rangeAt g (o + k * 4) p.cells.toList ∧ PgAt wv p (pgK X k)) := fun k hk => by
    obtain ⟨g, o, e, hc⟩ := (N7.now).cells (by show 0 < NP; omega)
    have hg := pgs_far N7 (by show 0 < NP; omega) e
    obtain ⟨p, r, PA⟩ := hc k (pgK X k) (pagesOf_at X 2 NP k hk)
    have c0 := r 0 p.t.v rfl
    have hlt : g < w7.heap.size := by simpa using World.block_lt_of_cell? w7 _ c0
    refine ⟨g, o, e, p, fun wv hkp => ?_⟩
    have r2 := range_of r (hkp g (Or.inr (by omega)) hlt)
    refine ⟨r2, ?_⟩
    obtain ⟨g', o', e', hc'⟩ := (N7 wv (fun b h1 h2 => hkp b (Or.inr (by have h1' : w6f.heap.size ≤ b := h1; omega)) h2)).cells (by show 0 < NP; omega)
    rw [e] at e'
    have e2 := Option.some.inj e'
    simp only [Addr.mk.injEq, and_true] at e2
    obtain ⟨rfl, rfl⟩ := e2
    obtain ⟨p', r', PA'⟩ := hc' k (pgK X k) (pagesOf_at X 2 NP k hk)
    rw [pg_cells r2 r']
    exact PA'
  have HPF : Hid (∀ k, k < NP → ckN V D L (pgK X k) = 0 ∧ (-9223372036854775808 ≤ (pgK X k).F ∧ (pgK X k).F ≤ 9223372036854775807) ∧ (cubeB (pgK X k).K).length + (cubeB (pgK X k).V).length ≤ 900000 ∧ (pageB (pgK X k)).length ≤ 20000 ∧ rdS V D L (pageB (pgK X k)) = (0, pgK X k)) := fun k hk => by
    obtain ⟨_, _, _, p, hp⟩ := HPG.out k hk
    exact page_facts hfit hD32 hL4 hV64 (by rw [← HNP.out]; exact hk) (hp w7 (fun _ _ _ => rfl)).2
  have HFT : Hid (VwFit (V : Int) D L X) := hfit
  have HD7 : Hid (Below w.heap.size w w7) := D7
  have hpw : wp.heap.size ≤ w7.heap.size := by omega
  have BPW : Below wp.heap.size wp w7 := below_then (below_then (below_then HBp.out HB6.out) HBV.out) B7
  have hn4 : decide ((NP : Int) > 4) = false := decide_eq_false (by omega)
  have MA := Mp.MapAt.made Value.string w7
  have BM : Below w7.heap.size w7 (w7.alloc (.map #[] 0)) := (Below.refl _ _).alloc (Nat.le_refl _) _
  have hm8 : w7.heap.size < (w7.alloc (.map #[] 0)).heap.size := by simp
  generalize hw8 : w7.alloc (.map #[] 0) = w8 at *
  have hmk := @run_makeMap Tryz.prog
  have S8 := Pl.Sit.start PA0 BPW BM hm8
  clear BPW PA0 BM N6 N7 X0 XV D6 D7 B7 HBp HB6 HBV hfit HL1
  go_wp2_with fail
  clear hw8 hmk
  go_loopg [118] NP (fun r s118 wr => ∃ k : Nat, k ≤ NP ∧ r = NP - k ∧ s118 = .int .i64 (k : Int) ∧ Pl.Sit w7 wr wy.heap.size wp.heap.size w7.heap.size (Pl.S1 k) ∧ Mp.MapAt Value.string wr w7.heap.size (txL X k))
  case atStart => exact ⟨0, by omega, by omega, rfl, S8, MA⟩
  case round =>
    clear S8 MA hm8 hn4
    obtain ⟨k, hk, rfl, rfl, S, MA⟩ := hrel
    by_cases hlt : k < NP
    · have h4 : k < 4 := by omega
      obtain ⟨g, o, e5, p, hp⟩ := HPG.out k hlt
      subst e5
      obtain ⟨ck, hF, hcs, hpl, -⟩ := HPF.out k hlt
      obtain ⟨r0, -⟩ := hp wr S.keep
      obtain ⟨⟨p1, p2, p3⟩, pf, ⟨p4, p5, p6⟩, ⟨p7, p8, p9⟩⟩ := p
      have HP : Hid (∀ wv : World, (∀ k, (k < wy.heap.size ∨ wp.heap.size ≤ k) → k < w7.heap.size → wv.heap[k]? = w7.heap[k]?) → PgAt wv ⟨⟨p1, p2, p3⟩, pf, ⟨p4, p5, p6⟩, ⟨p7, p8, p9⟩⟩ (pgK X k)) := fun wv h => (hp wv h).2
      clear hp
      rw [show PgV.cells ⟨⟨p1, p2, p3⟩, pf, ⟨p4, p5, p6⟩, ⟨p7, p8, p9⟩⟩ = #[.slice p1 p2 p3, .int .i64 pf, .slice p4 p5 p6, .slice p7 p8 p9] from rfl] at r0
      obtain ⟨Z9, XB, BV, _⟩ := var3 wr 30 #[.slice none 0 0, .int .i64 0, .slice none 0 0, .slice none 0 0] #[.slice p1 p2 p3, .int .i64 pf, .slice p4 p5 p6, .slice p7 p8 p9]
      generalize hz1 : wr.alloc (.cells #[.slice none 0 0, .int .i64 0, .slice none 0 0, .slice none 0 0] 30) = wz at *
      generalize hz2 : wz.setRow wr.heap.size #[.slice p1 p2 p3, .int .i64 pf, .slice p4 p5 p6, .slice p7 p8 p9] = wb at *
      have hBb : Hid (Below wr.heap.size wr wb) := BV
      have hxb := XB.lt
      have S2 := S.next BV (by omega) hpw
      have MA2 := MA.below BV
      have BE := S.below
      have TK := Pl.take_step wy.heap.size (Pl.S1 k) wb S2.pool
      rw [Pl.s1_take k h4] at TK
      simp only at TK
      go_wp2_with (first | (refine wpList_load_mid rfl 30 _ rfl g (o + k * 4) rfl [.slice p1 p2 p3, .int .i64 pf, .slice p4 p5 p6, .slice p7 p8 p9] _ r0 Tryz.underlying30 rfl (by exact Tryz.infoPg) ?_) | (refine wpList_store_row rfl 30 _ _ rfl wr.heap.size #[.slice p1 p2 p3, .int .i64 pf, .slice p4 p5 p6, .slice p7 p8 p9] rfl rfl 30 _ Z9 Tryz.infoPg rfl (by simp [Value.oneCell']) ?_; rw [hz2]))
      refine TK.mono ?_
      rintro e wt ⟨rfl, I3, T3⟩
      clear TK hz1 hz2 Z9 r0 BV
      obtain ⟨S3, em3⟩ := S2.turns T3 I3 (by omega) hpw
      have MA3 := MA2.keep em3
      replace XB := XB.of_block (S.own hBb.out T3 (by omega) hpw (Nat.le_refl _) hxb)
      clear S2 MA2 em3 I3 T3 hBb
      obtain ⟨X0, -, -⟩ := HST.out wt S3.keep
      have BY := bytes_ok V D Hd H L ⟨⟨p1, p2, p3⟩, pf, ⟨p4, p5, p6⟩, ⟨p7, p8, p9⟩⟩ (pgK X k) wt (HP.out wt S3.keep) hF ck hcs
      rw [show PgV.cells ⟨⟨p1, p2, p3⟩, pf, ⟨p4, p5, p6⟩, ⟨p7, p8, p9⟩⟩ = #[.slice p1 p2 p3, .int .i64 pf, .slice p4 p5 p6, .slice p7 p8 p9] from rfl] at BY
      unfold cfgC at BY
      obtain ⟨TX, hTX⟩ : ∃ TX, TX = txt (pageB (pgK X k)) := ⟨_, rfl⟩
      rw [← hTX] at BY
      have HTX : Hid (TX = txt (pageB (pgK X k))) := hTX
      clear hTX ck hF hcs hpl HP
      go_wp2_with (first | (refine wpList_load_row rfl 23 _ rfl w.heap.size rfl 23 #[.int .i64 (V : Int), .int .i64 (D : Int), .int .i64 (Hd : Int), .int .i64 (H : Int), .int .i64 (L : Int)] (0, 0) _ X0 Tryz.underlying23 rfl Tryz.infoC ?_) | (refine wpList_load_row rfl 30 _ rfl wr.heap.size rfl 30 #[.slice p1 p2 p3, .int .i64 pf, .slice p4 p5 p6, .slice p7 p8 p9] (0, 0) _ XB Tryz.underlying30 rfl Tryz.infoPg ?_))
      refine BY.mono ?_
      rintro e w12 ⟨rfl, B12⟩
      clear BY X0 XB
      have S4 := S3.next B12 (by omega) hpw
      have MA4 := MA3.below B12
      clear S3 MA3 B12
      have SL := Pl.seal_step wy.heap.size (k : Int) (10 * (k : Int)) (Pl.S1a k) w12 S4.pool (by omega)
      rw [Pl.s1_seal k h4] at SL
      simp only at SL
      go_wp2_with fail
      refine SL.mono ?_
      rintro e w13 ⟨rfl, I5, T5⟩
      obtain ⟨S5, em5⟩ := S4.turns T5 I5 (by omega) hpw
      have MA5 := MA4.keep em5
      clear SL S4 MA4 em5 I5 T5
      have DR := Pl.drop_step wy.heap.size (k : Int) (Pl.S1b k) w13 S5.pool (by omega)
      rw [Pl.s1_drop k h4] at DR
      simp only at DR
      go_wp2_with fail
      refine DR.mono ?_
      rintro e w14 ⟨rfl, I6, T6⟩
      obtain ⟨S6, em6⟩ := S5.turns T6 I6 (by omega) hpw
      have MA6 := MA5.keep em6
      clear DR S5 MA5 em6 I6 T6
      obtain ⟨w15, hrun, MA7, BT, z7⟩ := MA6.store (E := 9) Tryz.underlying54 (by have := txL_len X k; omega) (k : Int) (by omega) TX
      have G7 : w14.grownBy w15 (some w7.heap.size) := ⟨BT.os, BT.tape, BT.output, BT.size, fun i hi e => BT.block i hi (fun e2 => e (by rw [e2]))⟩
      have S7 := S6.grown G7 (by omega) hpw
      have HMA : Hid (Mp.MapAt Value.string w15 w7.heap.size (txL X (k + 1))) := by
        show Mp.MapAt _ _ _ (Mp.putM (txL X k) (k : Int) (txt (pageB (pgK X k))))
        rw [← HTX.out]
        exact MA7
      clear MA6 MA7 BT z7 G7 S6 S MA BE
      go_wp2_with fail
      go_roundg (NP - (k + 1))
      case measure => omega
      case rel => exact ⟨k + 1, by omega, rfl, by go_num, S7, HMA.out⟩
    · obtain rfl : NP = k := by omega
      clear hlt hk
      obtain ⟨tm, htm⟩ : ∃ t, t = min mo.toNat 4 := ⟨_, rfl⟩
      have HTM : Hid (tm = min mo.toNat 4) := htm
      have htm4 : tm ≤ 4 := by omega
      clear htm
      go_wp2_with fail
      go_loopg [29, 30] tm (fun r s29 s30 wt => ∃ t : Nat, t ≤ tm ∧ r = tm - t ∧ s29 = .int .i64 ((t - (4 - NP) : Nat) : Int) ∧ s30 = .int .i64 (t : Int) ∧ Pl.Sit w7 wt wy.heap.size wp.heap.size w7.heap.size (Pl.S2 NP t) ∧ Mp.MapAt Value.string wt w7.heap.size (txL X NP))
      case atStart => exact ⟨0, by omega, by omega, by rw [Nat.zero_sub]; rfl, rfl, S, MA⟩
      case round =>
        clear S MA
        generalize wr = wt at *
        obtain ⟨t, ht, rfl, rfl, rfl, S, MA⟩ := hrel
        by_cases hlt : t < tm
        · have hm1 : decide ((t : Int) < mo) = true := decide_eq_true (by have := HTM.out; omega)
          have hm2 : decide ((t : Int) < 4) = true := decide_eq_true (by omega)
          have s2t := Pl.s2_take NP (by omega) t (by omega)
          have TK := Pl.take_step wy.heap.size (Pl.S2 NP t) wt S.pool
          rw [s2t.1, s2t.2] at TK
          obtain ⟨ti, hti⟩ : ∃ z, (Pl.takeR (Pl.S2 NP t)).i = z := ⟨_, rfl⟩
          obtain ⟨tk, htk⟩ : ∃ z, (Pl.takeR (Pl.S2 NP t)).k = z := ⟨_, rfl⟩
          rw [hti, htk, show (Pl.takeR (Pl.S2 NP t)).x = Pl.S2 NP (t + 1) from rfl] at TK
          clear hti htk s2t
          obtain ⟨gn, hgn⟩ : ∃ gn, gn = t - (4 - NP) := ⟨_, rfl⟩
          rw [← hgn]
          by_cases hd : 4 - NP ≤ t
          · rw [show decide (4 - NP ≤ t) = true from decide_eq_true hd] at TK
            have hgn2 : t + 1 - (4 - NP) = gn + 1 := by omega
            have HG2 : Hid (t + 1 - (4 - NP) = gn + 1) := hgn2
            have hgs : gn ≤ 4 := by omega
            clear hgn hgn2
            go_wp2_with fail
            refine TK.mono ?_
            rintro e w3 ⟨rfl, I3, T3⟩
            obtain ⟨S3, em3⟩ := S.turns T3 I3 (by omega) hpw
            have MA3 := MA.keep em3
            clear TK S MA em3 I3 T3
            go_wp2_with fail
            go_roundg (tm - (t + 1))
            case measure => omega
            case rel => exact ⟨t + 1, by omega, rfl, by rw [HG2.out]; go_num, by go_num, S3, MA3⟩
          · rw [show decide (4 - NP ≤ t) = false from decide_eq_false hd] at TK
            have hgn2 : t + 1 - (4 - NP) = gn := by omega
            have HG2 : Hid (t + 1 - (4 - NP) = gn) := hgn2
            have hgs : gn ≤ 4 := by omega
            clear hgn hgn2
            go_wp2_with fail
            refine TK.mono ?_
            rintro e w3 ⟨rfl, I3, T3⟩
            obtain ⟨S3, em3⟩ := S.turns T3 I3 (by omega) hpw
            have MA3 := MA.keep em3
            clear TK S MA em3 I3 T3
            go_wp2_with fail
            go_roundg (tm - (t + 1))
            case measure => omega
            case rel => exact ⟨t + 1, by omega, rfl, by rw [HG2.out], by go_num, S3, MA3⟩
        · obtain rfl : tm = t := by omega
          obtain ⟨gn, hgn⟩ : ∃ gn, gn = tm - (4 - NP) := ⟨_, rfl⟩
          rw [← hgn]
          have HGN : Hid (gn = tm - (4 - NP)) := hgn
          have hgn4 : gn ≤ 4 := by omega
          clear hgn hlt ht
          have HSL : Hid (∀ wv, Below wt.heap.size wt wv → Pl.Sit w7 wv wy.heap.size wp.heap.size w7.heap.size (Pl.S2 NP tm) ∧ Mp.MapAt Value.string wv w7.heap.size (txL X NP) ∧ Blk wv w.heap.size 23 #[.int .i64 (V : Int), .int .i64 (D : Int), .int .i64 (Hd : Int), .int .i64 (H : Int), .int .i64 (L : Int)] ∧ Blk wv w6.heap.size 48 #[.slice ta tn tz, .slice ka kn kz, .slice va vn vz] ∧ VwAt wv ⟨⟨ta, tn, tz⟩, ⟨ka, kn, kz⟩, ⟨va, vn, vz⟩⟩ X) := fun wv hb => ⟨S.next hb (by omega) hpw, MA.below hb, HST.out wv (S.next hb (by omega) hpw).keep⟩
          have HDL : Hid (∀ wv, Below wt.heap.size wt wv → Below w.heap.size w wv) := fun wv hb => HD7.out.trans ((S.next hb (by omega) hpw).below.mono (by omega))
          have hzw := S.size
          clear S MA
          obtain ⟨bm, hbm⟩ : ∃ b : Bool, decide ((tm : Int) < mo) = b := ⟨_, rfl⟩
          have HBM : Hid (bm = true → decide ((tm : Int) < 4) = false) := fun h => by
            rw [h] at hbm
            have h1 := of_decide_eq_true hbm
            have h2 := HTM.out
            exact decide_eq_false (by omega)
          skip
          cases bm with
          | true =>
            have hm2 := HBM.out rfl
            go_wp2_with fail
            go_loopg [35, 187] NP (fun r s35 s187 wr => ∃ (k : Nat) (u : Value), k ≤ NP ∧ r = NP - k ∧ s187 = .int .i64 (k : Int) ∧ s35 = u ∧ OwnPg wr wt.heap.size wt.heap.size u (gotP X gn k) ∧ Below wt.heap.size wt wr)
            case atStart => exact ⟨0, _, by omega, by omega, rfl, rfl, by rw [gotP_nil X (Nat.zero_le _)]; exact ownPg_empty wt _, (Below.refl _ _).alloc (Nat.le_refl _) _⟩
            case round =>
              obtain ⟨k, u, hk, rfl, rfl, hu, OP, BB⟩ := hrel
              have hu2 := hu.symm
              subst hu2
              clear hu
              by_cases hlt : k < NP
              · obtain ⟨S, MA, X0, -, -⟩ := HSL.out wr BB
                have FK := Pl.find_any wy.heap.size (10 * (k : Int)) (Pl.S2 NP tm).L (Pl.S2 NP tm).I wr S.pool.at' S.pool.few
                rw [Pl.s2_find NP (by omega) tm (by omega) k hlt, ← HGN.out] at FK
                clear S
                by_cases hgk : gn ≤ k
                rotate_left
                · rw [if_neg hgk, show max (-1 : Int) 0 = 0 from rfl, show decide ((0 : Int) ≤ -1) = false from rfl] at FK
                  have hge : decide ((k : Int) ≥ (gn : Int)) = false := decide_eq_false (by omega)
                  go_wp2_with fail
                  refine FK.mono ?_
                  rintro e w2' ⟨rfl, B2'⟩
                  have BB2 := BB.trans (B2'.mono BB.size)
                  have O2 := OP.below B2'
                  clear FK MA X0 B2' BB OP
                  go_wp2_with fail
                  go_roundg (NP - (k + 1))
                  case measure => omega
                  case rel =>
                    rw [gotP_nil X (show k ≤ gn by omega)] at O2
                    exact ⟨k + 1, _, by omega, rfl, by go_num, rfl, by rw [gotP_nil X (show k + 1 ≤ gn by omega)]; exact O2, BB2⟩
                rw [if_pos hgk, show max (k : Int) 0 = (k : Int) by omega, show decide ((0 : Int) ≤ (k : Int)) = true from decide_eq_true (by omega)] at FK
                have hge : decide ((k : Int) ≥ (gn : Int)) = true := decide_eq_true (by omega)
                obtain ⟨-, hF, -, hpl, hrd⟩ := HPF.out k hlt
                go_wp2_with fail
                refine FK.mono ?_
                rintro e w2' ⟨rfl, B2'⟩
                replace MA := MA.below B2'
                replace X0 := X0.below B2'
                have LK := MA.look1 (E := 9) Tryz.underlying54 (strZ w2') (k : Int) (by omega)
                rw [txL_get X NP k hlt] at LK
                simp only [Option.getD_some] at LK
                have CR := read_any V D Hd H L (pageB (pgK X k)) w2' (by omega) (by omega) (by omega)
                rw [hrd] at CR
                simp only at CR
                unfold cfgC at CR
                generalize txt (pageB (pgK X k)) = TX at *
                clear FK MA hpl hrd hF
                have B1r := B2'
                have hs12 := B1r.size
                have hszr := BB.size
                go_wp2_with (refine wpList_load_row rfl 23 _ rfl w.heap.size rfl 23 #[.int .i64 (V : Int), .int .i64 (D : Int), .int .i64 (Hd : Int), .int .i64 (H : Int), .int .i64 (L : Int)] (0, 0) _ X0 Tryz.underlying23 rfl Tryz.infoC ?_)
                refine CR.mono ?_
                clear CR LK X0 B2'
                rintro e w13 ⟨⟨⟨x1, x2, x3⟩, xf, ⟨x4, x5, x6⟩, ⟨x7, x8, x9⟩⟩, rfl, NX, B13⟩
                rw [show PgV.cells ⟨⟨x1, x2, x3⟩, xf, ⟨x4, x5, x6⟩, ⟨x7, x8, x9⟩⟩ = #[.slice x1 x2 x3, .int .i64 xf, .slice x4 x5 x6, .slice x7 x8 x9] from rfl]
                have B2r := below_then B1r B13
                obtain ⟨XE14, XF14, BF14, _⟩ := var3 w13 30 #[.slice none 0 0, .int .i64 0, .slice none 0 0, .slice none 0 0] #[.slice x1 x2 x3, .int .i64 xf, .slice x4 x5 x6, .slice x7 x8 x9]
                generalize hwe14 : w13.alloc (.cells #[.slice none 0 0, .int .i64 0, .slice none 0 0, .slice none 0 0] 30) = w14g at *
                generalize hwf14 : w14g.setRow w13.heap.size #[.slice x1 x2 x3, .int .i64 xf, .slice x4 x5 x6, .slice x7 x8 x9] = w14f at *
                have B3r := below_then B2r BF14
                have NX2 := NX.below BF14
                have BA : Below w14f.heap.size w14f (w14f.alloc (.cells #[.slice x1 x2 x3, .int .i64 xf, .slice x4 x5 x6, .slice x7 x8 x9] 30)) := (Below.refl _ _).alloc (Nat.le_refl _) _
                have s14 : w14f.heap.size = w13.heap.size + 1 := by rw [← hwf14, ← hwe14]; simp
                have CN := blk_new w14f 30 #[.slice x1 x2 x3, .int .i64 xf, .slice x4 x5 x6, .slice x7 x8 x9]
                rw [s14] at CN
                generalize hw15 : w14f.alloc (.cells #[.slice x1 x2 x3, .int .i64 xf, .slice x4 x5 x6, .slice x7 x8 x9] 30) = w15 at *
                have B4r := below_then B3r BA
                have O4 := OP.below B4r
                have H4 : Hangs (offV wt.heap.size u) w15 (fun w => PgAt w ⟨⟨x1, x2, x3⟩, xf, ⟨x4, x5, x6⟩, ⟨x7, x8, x9⟩⟩ (pgK X k)) := Hangs.mono (NX2.below BA) fun b _ h => by
                  have h' : w2'.heap.size ≤ b := h
                  refine ⟨by omega, fun e => ?_⟩
                  have := (OP.lt e).2
                  omega
                have hs4 := B4r.size
                have hgl := gotP_len X gn k
                clear s14 NX NX2 OP B1r B2r B3r BF14 B13
                go_wp2_with (first | (refine wpList_store_row rfl 30 _ _ rfl w13.heap.size #[.slice x1 x2 x3, .int .i64 xf, .slice x4 x5 x6, .slice x7 x8 x9] rfl rfl 30 _ XE14 Tryz.infoPg rfl (by simp [Value.oneCell']) ?_; rw [hwf14]) | (refine wpList_load_row rfl 30 _ rfl w13.heap.size rfl 30 #[.slice x1 x2 x3, .int .i64 xf, .slice x4 x5 x6, .slice x7 x8 x9] (0, 0) _ XF14 Tryz.underlying30 rfl Tryz.infoPg ?_) | (at_builtin; refine wpList_append_pg rfl _ _ rfl wt.heap.size wt.heap.size u (gotP X gn k) (k - gn) hgl rfl (by exact O4) (w13.heap.size + 1) ⟨⟨x1, x2, x3⟩, xf, ⟨x4, x5, x6⟩, ⟨x7, x8, x9⟩⟩ (pgK X k) rfl (by exact CN) (by exact H4) (by omega) (by omega) ?_; intro ea ec w16 O5 G5 N5))
                go_roundg (NP - (k + 1))
                case measure => omega
                case rel =>
                  have B5 : Below wt.heap.size wt w16 := (BB.trans (B4r.mono hszr)).grown G5 (by omega) (fun g e => (O4.lt e).1)
                  exact ⟨k + 1, _, by omega, rfl, by go_num, rfl, by rw [gotP_next X hgk]; exact O5, B5⟩
              · obtain rfl : NP = k := by omega
                clear hlt hk
                obtain ⟨qa, qc, e9⟩ := OP.form
                rw [gotP_len] at e9
                subst e9
                have PJ := (OP.new (by omega) (Nat.le_refl _)).now
                have JC := join_any V D Hd H L ⟨qa, NP - gn, qc⟩ (gotP X gn NP) wr PJ (fun b hb => by
                  obtain ⟨t, ht⟩ := List.mem_iff_getElem?.1 (List.mem_of_mem_drop hb)
                  have hl : t < NP := by have := (List.getElem?_eq_some_iff.1 ht).1; rw [pagesOf_len] at this; exact this
                  rw [pagesOf_at X 2 NP t hl] at ht
                  rw [← Option.some.inj ht]
                  exact (HPF.out t hl).2.1) (by omega) (by omega)
                unfold cfgC Sl.v at JC
                simp only at JC
                clear PJ OP
                obtain ⟨-, -, X0, -, -⟩ := HSL.out wr BB
                have hjn : ∃ z Y, jnS V D L noVw (gotP X gn NP) = (z, Y) ∧ (gn = 0 ∧ z = 0 ∧ Y = X ∨ 0 < gn ∧ gn < NP ∧ z = 8 ∧ Y = noVw ∨ 0 < gn ∧ NP ≤ gn ∧ z = 0 ∧ Y = noVw) := by
                  rcases Nat.eq_zero_or_pos gn with h0 | h0
                  · exact ⟨0, X, by rw [h0]; exact got_join HFT.out HNP.out, Or.inl ⟨h0, rfl, rfl⟩⟩
                  · rcases Nat.lt_or_ge gn NP with h1 | h1
                    · exact ⟨8, noVw, got_off HFT.out h0 h1 HNP.out, Or.inr (Or.inl ⟨h0, h1, rfl, rfl⟩)⟩
                    · exact ⟨0, noVw, by rw [gotP_nil X h1]; rfl, Or.inr (Or.inr ⟨h0, h1, rfl, rfl⟩)⟩
                obtain ⟨z, Y, hjz, hcase⟩ := hjn
                rw [hjz] at JC
                simp only at JC
                clear hjz
                go_wp2_with (refine wpList_load_row rfl 23 _ rfl w.heap.size rfl 23 #[.int .i64 (V : Int), .int .i64 (D : Int), .int .i64 (Hd : Int), .int .i64 (H : Int), .int .i64 (L : Int)] (0, 0) _ X0 Tryz.underlying23 rfl Tryz.infoC ?_)
                refine JC.mono ?_
                clear JC X0
                rintro e w20 ⟨⟨⟨m1, m2, m3⟩, ⟨m4, m5, m6⟩, ⟨m7, m8, m9⟩⟩, rfl, NU, B20⟩
                rw [show VwV.cells ⟨⟨m1, m2, m3⟩, ⟨m4, m5, m6⟩, ⟨m7, m8, m9⟩⟩ = #[.slice m1 m2 m3, .slice m4 m5 m6, .slice m7 m8 m9] from rfl]
                have BB2 := BB.trans (B20.mono BB.size)
                obtain ⟨Z9, XU, BV, _⟩ := var3 w20 48 #[.slice none 0 0, .slice none 0 0, .slice none 0 0] #[.slice m1 m2 m3, .slice m4 m5 m6, .slice m7 m8 m9]
                generalize hz1 : w20.alloc (.cells #[.slice none 0 0, .slice none 0 0, .slice none 0 0] 48) = wz at *
                generalize hz2 : wz.setRow w20.heap.size #[.slice m1 m2 m3, .slice m4 m5 m6, .slice m7 m8 m9] = w5 at *
                have BB3 := BB2.trans (BV.mono BB2.size)
                have UW := NU.now.below BV
                clear BV NU B20 BB BB2
                obtain ⟨-, -, -, XV, VW⟩ := HSL.out w5 BB3
                have DW := HDL.out _ BB3
                rcases hcase with ⟨rfl, rfl, hY⟩ | ⟨hg0, hg1, rfl, rfl⟩ | ⟨hg0, hg1, rfl, rfl⟩
                · obtain rfl := hY.symm
                  go_upto_region 48 with (refine wpList_store_row rfl 48 _ _ rfl w20.heap.size #[.slice m1 m2 m3, .slice m4 m5 m6, .slice m7 m8 m9] rfl rfl 48 _ Z9 Tryz.infoV rfl (by simp [Value.oneCell']) ?_; rw [hz2])
                  have BD : Below w5.heap.size w5 w5.drew := (Below.refl _ w5).drew
                  replace XU := XU.below BD
                  replace XV := XV.below BD
                  replace UW := UW.below BD
                  replace VW := VW.below BD
                  replace DW := below_then DW BD
                  clear BD hz1 hz2 Z9
                  have TU := fun wv (h : VwAt wv ⟨⟨m1, m2, m3⟩, ⟨m4, m5, m6⟩, ⟨m7, m8, m9⟩⟩ X) => told9_fit V D L ⟨⟨m1, m2, m3⟩, ⟨m4, m5, m6⟩, ⟨m7, m8, m9⟩⟩ X wv h HFT.out hD32 hL4
                  have TV := fun wv (h : VwAt wv ⟨⟨ta, tn, tz⟩, ⟨ka, kn, kz⟩, ⟨va, vn, vz⟩⟩ X) => told9_fit V D L ⟨⟨ta, tn, tz⟩, ⟨ka, kn, kz⟩, ⟨va, vn, vz⟩⟩ X wv h HFT.out hD32 hL4
                  unfold VwV.cells Sl.v at TU TV
                  simp only at TU TV
                  refine wp_region_held_drew (S := fun w' => Blk w' w20.heap.size 48 #[.slice m1 m2 m3, .slice m4 m5 m6, .slice m7 m8 m9] ∧ Blk w' w6.heap.size 48 #[.slice ta tn tz, .slice ka kn kz, .slice va vn vz]) (by kernel_rfl) (⟨XU, XV⟩) (fun hHeld => ?_)
                  generalize hA : w5.drew = wA at *
                  clear hA
                  refine wpAnyH_take (i := 0) (v := (.int .i64 0)) rfl (by kernel_rfl) (by kernel_rfl) (by kernel_rfl) (fun _ _ _ h => h) (Or.inl ⟨by rfl, ?_⟩) (by assumption) ?_
                  · intro w' hSw
                    go_simp
                  simp only [List.getElem_toArray, List.getElem_cons_zero, Act.put, List.setIfInBounds_toArray, List.set_cons_zero, List.set_cons_succ]
                  refine wpAnyH_take (i := 1) (v := (.bool true)) rfl (by kernel_rfl) (by kernel_rfl) (by kernel_rfl) (fun _ _ _ h => h) (Or.inl ⟨by rfl, ?_⟩) (by assumption) ?_
                  · intro w' hSw
                    go_simp
                  simp only [List.getElem_toArray, List.getElem_cons_succ, List.getElem_cons_zero, Act.put, List.setIfInBounds_toArray, List.set_cons_zero, List.set_cons_succ]
                  refine wpAnyH_take (i := 2) (v := (.bool true)) rfl (by kernel_rfl) (by kernel_rfl) (by kernel_rfl) (fun _ _ _ h => h) (Or.inl ⟨by rfl, ?_⟩) (by assumption) ?_
                  · intro w' hSw
                    go_simp
                  simp only [List.getElem_toArray, List.getElem_cons_succ, List.getElem_cons_zero, Act.put, List.setIfInBounds_toArray, List.set_cons_zero, List.set_cons_succ]
                  refine wpAnyH_take (i := 3) (v := (.int .i64 0)) rfl (by kernel_rfl) (by kernel_rfl) (by kernel_rfl) (fun _ _ _ h => h) (Or.inl ⟨by rfl, ?_⟩) (by assumption) ?_
                  · intro w' hSw
                    go_simp
                  simp only [List.getElem_toArray, List.getElem_cons_succ, List.getElem_cons_zero, Act.put, List.setIfInBounds_toArray, List.set_cons_zero, List.set_cons_succ]
                  refine wpAnyH_take (i := 4) (v := (.bool false)) rfl (by kernel_rfl) (by kernel_rfl) (by kernel_rfl) (fun _ _ _ h => h) (Or.inl ⟨by rfl, ?_⟩) (by assumption) ?_
                  · intro w' hSw
                    go_simp
                  simp only [List.getElem_toArray, List.getElem_cons_succ, List.getElem_cons_zero, Act.put, List.setIfInBounds_toArray, List.set_cons_zero, List.set_cons_succ]
                  refine wpAnyH_take (i := 5) (v := (.bool false)) rfl (by kernel_rfl) (by kernel_rfl) (by kernel_rfl) (fun _ _ _ h => h) (Or.inl ⟨by rfl, ?_⟩) (by assumption) ?_
                  · intro w' hSw
                    go_simp
                  simp only [List.getElem_toArray, List.getElem_cons_succ, List.getElem_cons_zero, Act.put, List.setIfInBounds_toArray, List.set_cons_zero, List.set_cons_succ]
                  refine wpAnyH_take (i := 6) (v := .agg #[.slice m1 m2 m3, .slice m4 m5 m6, .slice m7 m8 m9]) rfl (by kernel_rfl) (by kernel_rfl) (by kernel_rfl) (fun _ _ _ h => h) (yields_rowJ (by rfl) 48 _ rfl w20.heap.size rfl 48 #[.slice m1 m2 m3, .slice m4 m5 m6, .slice m7 m8 m9] _ (fun w' hS => hS.1) Tryz.underlying48 rfl Tryz.infoV) (by assumption) ?_
                  simp only [List.getElem_toArray, List.getElem_cons_succ, List.getElem_cons_zero, Act.put, List.setIfInBounds_toArray, List.set_cons_zero, List.set_cons_succ]
                  refine wpAnyH_take (i := 8) (v := .agg #[.slice ta tn tz, .slice ka kn kz, .slice va vn vz]) rfl (by kernel_rfl) (by kernel_rfl) (by kernel_rfl) (fun _ _ _ h => h) (yields_rowJ (by rfl) 48 _ rfl w6.heap.size rfl 48 #[.slice ta tn tz, .slice ka kn kz, .slice va vn vz] _ (fun w' hS => hS.2) Tryz.underlying48 rfl Tryz.infoV) (by assumption) ?_
                  simp only [List.getElem_toArray, List.getElem_cons_succ, List.getElem_cons_zero, Act.put, List.setIfInBounds_toArray, List.set_cons_zero, List.set_cons_succ]
                  refine wpAnyH_ready (rs := [7]) (by kernel_rfl) (by simp) ?_
                  refine AllReadyH.cons rfl (fun Kc hKc => ?_) AllReadyH.nil
                  simp only [List.getElem_toArray, List.getElem_cons_succ, List.getElem_cons_zero]
                  rw [if_pos (by rfl)]
                  go_wp2_with fail
                  refine (TU _ UW).mono ?_
                  rintro e wB ⟨t9, k9, u9, rfl, T9, EM⟩
                  replace XU := XU.below EM
                  replace XV := XV.below EM
                  replace UW := UW.below EM
                  replace VW := VW.below EM
                  replace DW := below_then DW EM
                  clear EM
                  go_wp2_with fail
                  refine hKc.out _ _ (⟨XU, XV⟩) (fun hHeld => ?_)
                  clear hKc Kc
                  refine wpAnyH_ready (rs := [9]) (by kernel_rfl) (by simp) ?_
                  refine AllReadyH.cons rfl (fun Kc hKc => ?_) AllReadyH.nil
                  simp only [List.getElem_toArray, List.getElem_cons_succ, List.getElem_cons_zero]
                  rw [if_pos (by rfl)]
                  go_wp2_with fail
                  refine (TV _ VW).mono ?_
                  rintro e wC ⟨t8, k8, u8, rfl, T8, EM⟩
                  replace XU := XU.below EM
                  replace XV := XV.below EM
                  replace UW := UW.below EM
                  replace VW := VW.below EM
                  replace DW := below_then DW EM
                  replace T9 := T9.below EM
                  clear EM
                  go_wp2_with fail
                  refine hKc.out _ _ (⟨XU, XV⟩) (fun hHeld => ?_)
                  clear hKc Kc
                  refine wpAnyH_ready (rs := [10]) (by kernel_rfl) (by simp) ?_
                  refine AllReadyH.cons rfl (fun Kc hKc => ?_) AllReadyH.nil
                  simp only [List.getElem_toArray, List.getElem_cons_succ, List.getElem_cons_zero]
                  rw [if_pos (by rfl)]
                  go_wp2_with fail
                  refine (viewSame_eq t9 k9 u9 t8 k8 u8 X _ T9 T8).mono ?_
                  rintro e wD ⟨rfl, EM⟩
                  replace XU := XU.below EM
                  replace XV := XV.below EM
                  replace UW := UW.below EM
                  replace VW := VW.below EM
                  replace DW := below_then DW EM
                  clear T9 T8
                  clear EM
                  go_wp2_with fail
                  refine hKc.out _ _ (⟨XU, XV⟩) (fun hHeld => ?_)
                  clear hKc Kc
                  refine wpAnyH_take (i := 11) (v := (.bool true)) rfl (by kernel_rfl) (by kernel_rfl) (by kernel_rfl) (fun _ _ _ h => h) (Or.inl ⟨by rfl, ?_⟩) (by assumption) ?_
                  · intro w' hSw
                    go_simp
                  simp only [List.getElem_toArray, List.getElem_cons_succ, List.getElem_cons_zero, Act.put, List.setIfInBounds_toArray, List.set_cons_zero, List.set_cons_succ]
                  refine wpAnyH_take (i := 12) (v := (.bool true)) rfl (by kernel_rfl) (by kernel_rfl) (by kernel_rfl) (fun _ _ _ h => h) (Or.inl ⟨by rfl, ?_⟩) (by assumption) ?_
                  · intro w' hSw
                    go_simp
                  simp only [List.getElem_toArray, List.getElem_cons_succ, List.getElem_cons_zero, Act.put, List.setIfInBounds_toArray, List.set_cons_zero, List.set_cons_succ]
                  refine wpAnyH_take (i := 13) (v := (.bool true)) rfl (by kernel_rfl) (by kernel_rfl) (by kernel_rfl) (fun _ _ _ h => h) (Or.inl ⟨by rfl, ?_⟩) (by assumption) ?_
                  · intro w' hSw
                    go_simp
                  simp only [List.getElem_toArray, List.getElem_cons_succ, List.getElem_cons_zero, Act.put, List.setIfInBounds_toArray, List.set_cons_zero, List.set_cons_succ]
                  refine wpAnyH_done (by kernel_rfl) ?_ _
                  clear hHeld
                  go_wp2_with fail
                  go_ret
                  exact ⟨rfl, DW⟩
                · have hgi : decide ((gn : Int) > 0) = true := decide_eq_true (by omega)
                  have hli : decide (((NP - gn : Nat) : Int) > 0) = true := decide_eq_true (by omega)
                  obtain rfl : 0 = m2 := UW.t.row.len
                  have c0 : w5.cell? ⟨w20.heap.size, 0, none⟩ = some (.slice m1 0 m3) := XU.cell 0 rfl
                  go_wp2_with (refine wpList_store_row rfl 48 _ _ rfl w20.heap.size #[.slice m1 0 m3, .slice m4 m5 m6, .slice m7 m8 m9] rfl rfl 48 _ Z9 Tryz.infoV rfl (by simp [Value.oneCell']) ?_; rw [hz2])
                  go_ret
                  exact ⟨rfl, DW⟩
                · have hgi : decide ((gn : Int) > 0) = true := decide_eq_true (by omega)
                  have hli : decide (((NP - gn : Nat) : Int) > 0) = false := decide_eq_false (by omega)
                  go_upto_region 48 with (refine wpList_store_row rfl 48 _ _ rfl w20.heap.size #[.slice m1 m2 m3, .slice m4 m5 m6, .slice m7 m8 m9] rfl rfl 48 _ Z9 Tryz.infoV rfl (by simp [Value.oneCell']) ?_; rw [hz2])
                  have BD : Below w5.heap.size w5 w5.drew := (Below.refl _ w5).drew
                  replace XU := XU.below BD
                  replace XV := XV.below BD
                  replace UW := UW.below BD
                  replace VW := VW.below BD
                  replace DW := below_then DW BD
                  clear BD hz1 hz2 Z9
                  refine wp_region_held_drew (S := fun w' => Blk w' w20.heap.size 48 #[.slice m1 m2 m3, .slice m4 m5 m6, .slice m7 m8 m9] ∧ Blk w' w6.heap.size 48 #[.slice ta tn tz, .slice ka kn kz, .slice va vn vz]) (by kernel_rfl) (⟨XU, XV⟩) (fun hHeld => ?_)
                  generalize hA : w5.drew = wA at *
                  clear hA
                  refine wpAnyH_take (i := 0) (v := (.int .i64 0)) rfl (by kernel_rfl) (by kernel_rfl) (by kernel_rfl) (fun _ _ _ h => h) (Or.inl ⟨by rfl, ?_⟩) (by assumption) ?_
                  · intro w' hSw
                    go_simp
                  simp only [List.getElem_toArray, List.getElem_cons_zero, Act.put, List.setIfInBounds_toArray, List.set_cons_zero, List.set_cons_succ]
                  refine wpAnyH_take (i := 1) (v := (.bool true)) rfl (by kernel_rfl) (by kernel_rfl) (by kernel_rfl) (fun _ _ _ h => h) (Or.inl ⟨by rfl, ?_⟩) (by assumption) ?_
                  · intro w' hSw
                    go_simp
                  simp only [List.getElem_toArray, List.getElem_cons_succ, List.getElem_cons_zero, Act.put, List.setIfInBounds_toArray, List.set_cons_zero, List.set_cons_succ]
                  refine wpAnyH_take (i := 2) (v := (.bool true)) rfl (by kernel_rfl) (by kernel_rfl) (by kernel_rfl) (fun _ _ _ h => h) (Or.inl ⟨by rfl, ?_⟩) (by assumption) ?_
                  · intro w' hSw
                    go_simp
                  simp only [List.getElem_toArray, List.getElem_cons_succ, List.getElem_cons_zero, Act.put, List.setIfInBounds_toArray, List.set_cons_zero, List.set_cons_succ]
                  refine wpAnyH_take (i := 3) (v := (.int .i64 (gn : Int))) rfl (by kernel_rfl) (by kernel_rfl) (by kernel_rfl) (fun _ _ _ h => h) (Or.inl ⟨by rfl, ?_⟩) (by assumption) ?_
                  · intro w' hSw
                    go_simp
                  simp only [List.getElem_toArray, List.getElem_cons_succ, List.getElem_cons_zero, Act.put, List.setIfInBounds_toArray, List.set_cons_zero, List.set_cons_succ]
                  refine wpAnyH_take (i := 4) (v := (.bool true)) rfl (by kernel_rfl) (by kernel_rfl) (by kernel_rfl) (fun _ _ _ h => h) (Or.inl ⟨by rfl, ?_⟩) (by assumption) ?_
                  · intro w' hSw
                    go_simp
                  simp only [List.getElem_toArray, List.getElem_cons_succ, List.getElem_cons_zero, Act.put, List.setIfInBounds_toArray, List.set_cons_zero, List.set_cons_succ]
                  refine wpAnyH_take (i := 5) (v := (.bool true)) rfl (by kernel_rfl) (by kernel_rfl) (by kernel_rfl) (fun _ _ _ h => h) (Or.inl ⟨by rfl, ?_⟩) (by assumption) ?_
                  · intro w' hSw
                    go_simp
                  simp only [List.getElem_toArray, List.getElem_cons_succ, List.getElem_cons_zero, Act.put, List.setIfInBounds_toArray, List.set_cons_zero, List.set_cons_succ]
                  refine wpAnyH_take (i := 6) (v := undef) rfl (by kernel_rfl) (by kernel_rfl) (by kernel_rfl) (fun _ _ _ h => h) (Or.inr ⟨by rfl, rfl⟩) (by assumption) ?_
                  simp only [List.getElem_toArray, List.getElem_cons_succ, List.getElem_cons_zero, Act.put, List.setIfInBounds_toArray, List.set_cons_zero, List.set_cons_succ]
                  refine wpAnyH_take (i := 7) (v := undef) rfl (by kernel_rfl) (by kernel_rfl) (by kernel_rfl) (fun _ _ _ h => h) (Or.inr ⟨by rfl, rfl⟩) (by assumption) ?_
                  simp only [List.getElem_toArray, List.getElem_cons_succ, List.getElem_cons_zero, Act.put, List.setIfInBounds_toArray, List.set_cons_zero, List.set_cons_succ]
                  refine wpAnyH_take (i := 8) (v := undef) rfl (by kernel_rfl) (by kernel_rfl) (by kernel_rfl) (fun _ _ _ h => h) (Or.inr ⟨by rfl, rfl⟩) (by assumption) ?_
                  simp only [List.getElem_toArray, List.getElem_cons_succ, List.getElem_cons_zero, Act.put, List.setIfInBounds_toArray, List.set_cons_zero, List.set_cons_succ]
                  refine wpAnyH_take (i := 9) (v := undef) rfl (by kernel_rfl) (by kernel_rfl) (by kernel_rfl) (fun _ _ _ h => h) (Or.inr ⟨by rfl, rfl⟩) (by assumption) ?_
                  simp only [List.getElem_toArray, List.getElem_cons_succ, List.getElem_cons_zero, Act.put, List.setIfInBounds_toArray, List.set_cons_zero, List.set_cons_succ]
                  refine wpAnyH_take (i := 10) (v := undef) rfl (by kernel_rfl) (by kernel_rfl) (by kernel_rfl) (fun _ _ _ h => h) (Or.inr ⟨by rfl, rfl⟩) (by assumption) ?_
                  simp only [List.getElem_toArray, List.getElem_cons_succ, List.getElem_cons_zero, Act.put, List.setIfInBounds_toArray, List.set_cons_zero, List.set_cons_succ]
                  refine wpAnyH_take (i := 11) (v := (.bool true)) rfl (by kernel_rfl) (by kernel_rfl) (by kernel_rfl) (fun _ _ _ h => h) (Or.inl ⟨by rfl, ?_⟩) (by assumption) ?_
                  · intro w' hSw
                    go_simp
                  simp only [List.getElem_toArray, List.getElem_cons_succ, List.getElem_cons_zero, Act.put, List.setIfInBounds_toArray, List.set_cons_zero, List.set_cons_succ]
                  refine wpAnyH_take (i := 12) (v := (.bool true)) rfl (by kernel_rfl) (by kernel_rfl) (by kernel_rfl) (fun _ _ _ h => h) (Or.inl ⟨by rfl, ?_⟩) (by assumption) ?_
                  · intro w' hSw
                    go_simp
                  simp only [List.getElem_toArray, List.getElem_cons_succ, List.getElem_cons_zero, Act.put, List.setIfInBounds_toArray, List.set_cons_zero, List.set_cons_succ]
                  refine wpAnyH_take (i := 13) (v := (.bool true)) rfl (by kernel_rfl) (by kernel_rfl) (by kernel_rfl) (fun _ _ _ h => h) (Or.inl ⟨by rfl, ?_⟩) (by assumption) ?_
                  · intro w' hSw
                    go_simp
                  simp only [List.getElem_toArray, List.getElem_cons_succ, List.getElem_cons_zero, Act.put, List.setIfInBounds_toArray, List.set_cons_zero, List.set_cons_succ]
                  refine wpAnyH_done (by kernel_rfl) ?_ _
                  clear hHeld
                  go_wp2_with fail
                  go_ret
                  exact ⟨rfl, DW⟩
          | false =>
            go_wp2_with fail
            go_loopg [35, 187] NP (fun r s35 s187 wr => ∃ (k : Nat) (u : Value), k ≤ NP ∧ r = NP - k ∧ s187 = .int .i64 (k : Int) ∧ s35 = u ∧ OwnPg wr wt.heap.size wt.heap.size u (gotP X gn k) ∧ Below wt.heap.size wt wr)
            case atStart => exact ⟨0, _, by omega, by omega, rfl, rfl, by rw [gotP_nil X (Nat.zero_le _)]; exact ownPg_empty wt _, (Below.refl _ _).alloc (Nat.le_refl _) _⟩
            case round =>
              obtain ⟨k, u, hk, rfl, rfl, hu, OP, BB⟩ := hrel
              have hu2 := hu.symm
              subst hu2
              clear hu
              by_cases hlt : k < NP
              · obtain ⟨S, MA, X0, -, -⟩ := HSL.out wr BB
                have FK := Pl.find_any wy.heap.size (10 * (k : Int)) (Pl.S2 NP tm).L (Pl.S2 NP tm).I wr S.pool.at' S.pool.few
                rw [Pl.s2_find NP (by omega) tm (by omega) k hlt, ← HGN.out] at FK
                clear S
                by_cases hgk : gn ≤ k
                rotate_left
                · rw [if_neg hgk, show max (-1 : Int) 0 = 0 from rfl, show decide ((0 : Int) ≤ -1) = false from rfl] at FK
                  have hge : decide ((k : Int) ≥ (gn : Int)) = false := decide_eq_false (by omega)
                  go_wp2_with fail
                  refine FK.mono ?_
                  rintro e w2' ⟨rfl, B2'⟩
                  have BB2 := BB.trans (B2'.mono BB.size)
                  have O2 := OP.below B2'
                  clear FK MA X0 B2' BB OP
                  go_wp2_with fail
                  go_roundg (NP - (k + 1))
                  case measure => omega
                  case rel =>
                    rw [gotP_nil X (show k ≤ gn by omega)] at O2
                    exact ⟨k + 1, _, by omega, rfl, by go_num, rfl, by rw [gotP_nil X (show k + 1 ≤ gn by omega)]; exact O2, BB2⟩
                rw [if_pos hgk, show max (k : Int) 0 = (k : Int) by omega, show decide ((0 : Int) ≤ (k : Int)) = true from decide_eq_true (by omega)] at FK
                have hge : decide ((k : Int) ≥ (gn : Int)) = true := decide_eq_true (by omega)
                obtain ⟨-, hF, -, hpl, hrd⟩ := HPF.out k hlt
                go_wp2_with fail
                refine FK.mono ?_
                rintro e w2' ⟨rfl, B2'⟩
                replace MA := MA.below B2'
                replace X0 := X0.below B2'
                have LK := MA.look1 (E := 9) Tryz.underlying54 (strZ w2') (k : Int) (by omega)
                rw [txL_get X NP k hlt] at LK
                simp only [Option.getD_some] at LK
                have CR := read_any V D Hd H L (pageB (pgK X k)) w2' (by omega) (by omega) (by omega)
                rw [hrd] at CR
                simp only at CR
                unfold cfgC at CR
                generalize txt (pageB (pgK X k)) = TX at *
                clear FK MA hpl hrd hF
                have B1r := B2'
                have hs12 := B1r.size
                have hszr := BB.size
                go_wp2_with (refine wpList_load_row rfl 23 _ rfl w.heap.size rfl 23 #[.int .i64 (V : Int), .int .i64 (D : Int), .int .i64 (Hd : Int), .int .i64 (H : Int), .int .i64 (L : Int)] (0, 0) _ X0 Tryz.underlying23 rfl Tryz.infoC ?_)
                refine CR.mono ?_
                clear CR LK X0 B2'
                rintro e w13 ⟨⟨⟨x1, x2, x3⟩, xf, ⟨x4, x5, x6⟩, ⟨x7, x8, x9⟩⟩, rfl, NX, B13⟩
                rw [show PgV.cells ⟨⟨x1, x2, x3⟩, xf, ⟨x4, x5, x6⟩, ⟨x7, x8, x9⟩⟩ = #[.slice x1 x2 x3, .int .i64 xf, .slice x4 x5 x6, .slice x7 x8 x9] from rfl]
                have B2r := below_then B1r B13
                obtain ⟨XE14, XF14, BF14, _⟩ := var3 w13 30 #[.slice none 0 0, .int .i64 0, .slice none 0 0, .slice none 0 0] #[.slice x1 x2 x3, .int .i64 xf, .slice x4 x5 x6, .slice x7 x8 x9]
                generalize hwe14 : w13.alloc (.cells #[.slice none 0 0, .int .i64 0, .slice none 0 0, .slice none 0 0] 30) = w14g at *
                generalize hwf14 : w14g.setRow w13.heap.size #[.slice x1 x2 x3, .int .i64 xf, .slice x4 x5 x6, .slice x7 x8 x9] = w14f at *
                have B3r := below_then B2r BF14
                have NX2 := NX.below BF14
                have BA : Below w14f.heap.size w14f (w14f.alloc (.cells #[.slice x1 x2 x3, .int .i64 xf, .slice x4 x5 x6, .slice x7 x8 x9] 30)) := (Below.refl _ _).alloc (Nat.le_refl _) _
                have s14 : w14f.heap.size = w13.heap.size + 1 := by rw [← hwf14, ← hwe14]; simp
                have CN := blk_new w14f 30 #[.slice x1 x2 x3, .int .i64 xf, .slice x4 x5 x6, .slice x7 x8 x9]
                rw [s14] at CN
                generalize hw15 : w14f.alloc (.cells #[.slice x1 x2 x3, .int .i64 xf, .slice x4 x5 x6, .slice x7 x8 x9] 30) = w15 at *
                have B4r := below_then B3r BA
                have O4 := OP.below B4r
                have H4 : Hangs (offV wt.heap.size u) w15 (fun w => PgAt w ⟨⟨x1, x2, x3⟩, xf, ⟨x4, x5, x6⟩, ⟨x7, x8, x9⟩⟩ (pgK X k)) := Hangs.mono (NX2.below BA) fun b _ h => by
                  have h' : w2'.heap.size ≤ b := h
                  refine ⟨by omega, fun e => ?_⟩
                  have := (OP.lt e).2
                  omega
                have hs4 := B4r.size
                have hgl := gotP_len X gn k
                clear s14 NX NX2 OP B1r B2r B3r BF14 B13
                go_wp2_with (first | (refine wpList_store_row rfl 30 _ _ rfl w13.heap.size #[.slice x1 x2 x3, .int .i64 xf, .slice x4 x5 x6, .slice x7 x8 x9] rfl rfl 30 _ XE14 Tryz.infoPg rfl (by simp [Value.oneCell']) ?_; rw [hwf14]) | (refine wpList_load_row rfl 30 _ rfl w13.heap.size rfl 30 #[.slice x1 x2 x3, .int .i64 xf, .slice x4 x5 x6, .slice x7 x8 x9] (0, 0) _ XF14 Tryz.underlying30 rfl Tryz.infoPg ?_) | (at_builtin; refine wpList_append_pg rfl _ _ rfl wt.heap.size wt.heap.size u (gotP X gn k) (k - gn) hgl rfl (by exact O4) (w13.heap.size + 1) ⟨⟨x1, x2, x3⟩, xf, ⟨x4, x5, x6⟩, ⟨x7, x8, x9⟩⟩ (pgK X k) rfl (by exact CN) (by exact H4) (by omega) (by omega) ?_; intro ea ec w16 O5 G5 N5))
                go_roundg (NP - (k + 1))
                case measure => omega
                case rel =>
                  have B5 : Below wt.heap.size wt w16 := (BB.trans (B4r.mono hszr)).grown G5 (by omega) (fun g e => (O4.lt e).1)
                  exact ⟨k + 1, _, by omega, rfl, by go_num, rfl, by rw [gotP_next X hgk]; exact O5, B5⟩
              · obtain rfl : NP = k := by omega
                clear hlt hk
                obtain ⟨qa, qc, e9⟩ := OP.form
                rw [gotP_len] at e9
                subst e9
                have PJ := (OP.new (by omega) (Nat.le_refl _)).now
                have JC := join_any V D Hd H L ⟨qa, NP - gn, qc⟩ (gotP X gn NP) wr PJ (fun b hb => by
                  obtain ⟨t, ht⟩ := List.mem_iff_getElem?.1 (List.mem_of_mem_drop hb)
                  have hl : t < NP := by have := (List.getElem?_eq_some_iff.1 ht).1; rw [pagesOf_len] at this; exact this
                  rw [pagesOf_at X 2 NP t hl] at ht
                  rw [← Option.some.inj ht]
                  exact (HPF.out t hl).2.1) (by omega) (by omega)
                unfold cfgC Sl.v at JC
                simp only at JC
                clear PJ OP
                obtain ⟨-, -, X0, -, -⟩ := HSL.out wr BB
                have hjn : ∃ z Y, jnS V D L noVw (gotP X gn NP) = (z, Y) ∧ (gn = 0 ∧ z = 0 ∧ Y = X ∨ 0 < gn ∧ gn < NP ∧ z = 8 ∧ Y = noVw ∨ 0 < gn ∧ NP ≤ gn ∧ z = 0 ∧ Y = noVw) := by
                  rcases Nat.eq_zero_or_pos gn with h0 | h0
                  · exact ⟨0, X, by rw [h0]; exact got_join HFT.out HNP.out, Or.inl ⟨h0, rfl, rfl⟩⟩
                  · rcases Nat.lt_or_ge gn NP with h1 | h1
                    · exact ⟨8, noVw, got_off HFT.out h0 h1 HNP.out, Or.inr (Or.inl ⟨h0, h1, rfl, rfl⟩)⟩
                    · exact ⟨0, noVw, by rw [gotP_nil X h1]; rfl, Or.inr (Or.inr ⟨h0, h1, rfl, rfl⟩)⟩
                obtain ⟨z, Y, hjz, hcase⟩ := hjn
                rw [hjz] at JC
                simp only at JC
                clear hjz
                go_wp2_with (refine wpList_load_row rfl 23 _ rfl w.heap.size rfl 23 #[.int .i64 (V : Int), .int .i64 (D : Int), .int .i64 (Hd : Int), .int .i64 (H : Int), .int .i64 (L : Int)] (0, 0) _ X0 Tryz.underlying23 rfl Tryz.infoC ?_)
                refine JC.mono ?_
                clear JC X0
                rintro e w20 ⟨⟨⟨m1, m2, m3⟩, ⟨m4, m5, m6⟩, ⟨m7, m8, m9⟩⟩, rfl, NU, B20⟩
                rw [show VwV.cells ⟨⟨m1, m2, m3⟩, ⟨m4, m5, m6⟩, ⟨m7, m8, m9⟩⟩ = #[.slice m1 m2 m3, .slice m4 m5 m6, .slice m7 m8 m9] from rfl]
                have BB2 := BB.trans (B20.mono BB.size)
                obtain ⟨Z9, XU, BV, _⟩ := var3 w20 48 #[.slice none 0 0, .slice none 0 0, .slice none 0 0] #[.slice m1 m2 m3, .slice m4 m5 m6, .slice m7 m8 m9]
                generalize hz1 : w20.alloc (.cells #[.slice none 0 0, .slice none 0 0, .slice none 0 0] 48) = wz at *
                generalize hz2 : wz.setRow w20.heap.size #[.slice m1 m2 m3, .slice m4 m5 m6, .slice m7 m8 m9] = w5 at *
                have BB3 := BB2.trans (BV.mono BB2.size)
                have UW := NU.now.below BV
                clear BV NU B20 BB BB2
                obtain ⟨-, -, -, XV, VW⟩ := HSL.out w5 BB3
                have DW := HDL.out _ BB3
                rcases hcase with ⟨rfl, rfl, hY⟩ | ⟨hg0, hg1, rfl, rfl⟩ | ⟨hg0, hg1, rfl, rfl⟩
                · obtain rfl := hY.symm
                  go_upto_region 48 with (refine wpList_store_row rfl 48 _ _ rfl w20.heap.size #[.slice m1 m2 m3, .slice m4 m5 m6, .slice m7 m8 m9] rfl rfl 48 _ Z9 Tryz.infoV rfl (by simp [Value.oneCell']) ?_; rw [hz2])
                  have BD : Below w5.heap.size w5 w5.drew := (Below.refl _ w5).drew
                  replace XU := XU.below BD
                  replace XV := XV.below BD
                  replace UW := UW.below BD
                  replace VW := VW.below BD
                  replace DW := below_then DW BD
                  clear BD hz1 hz2 Z9
                  have TU := fun wv (h : VwAt wv ⟨⟨m1, m2, m3⟩, ⟨m4, m5, m6⟩, ⟨m7, m8, m9⟩⟩ X) => told9_fit V D L ⟨⟨m1, m2, m3⟩, ⟨m4, m5, m6⟩, ⟨m7, m8, m9⟩⟩ X wv h HFT.out hD32 hL4
                  have TV := fun wv (h : VwAt wv ⟨⟨ta, tn, tz⟩, ⟨ka, kn, kz⟩, ⟨va, vn, vz⟩⟩ X) => told9_fit V D L ⟨⟨ta, tn, tz⟩, ⟨ka, kn, kz⟩, ⟨va, vn, vz⟩⟩ X wv h HFT.out hD32 hL4
                  unfold VwV.cells Sl.v at TU TV
                  simp only at TU TV
                  refine wp_region_held_drew (S := fun w' => Blk w' w20.heap.size 48 #[.slice m1 m2 m3, .slice m4 m5 m6, .slice m7 m8 m9] ∧ Blk w' w6.heap.size 48 #[.slice ta tn tz, .slice ka kn kz, .slice va vn vz]) (by kernel_rfl) (⟨XU, XV⟩) (fun hHeld => ?_)
                  generalize hA : w5.drew = wA at *
                  clear hA
                  refine wpAnyH_take (i := 0) (v := (.int .i64 0)) rfl (by kernel_rfl) (by kernel_rfl) (by kernel_rfl) (fun _ _ _ h => h) (Or.inl ⟨by rfl, ?_⟩) (by assumption) ?_
                  · intro w' hSw
                    go_simp
                  simp only [List.getElem_toArray, List.getElem_cons_zero, Act.put, List.setIfInBounds_toArray, List.set_cons_zero, List.set_cons_succ]
                  refine wpAnyH_take (i := 1) (v := (.bool true)) rfl (by kernel_rfl) (by kernel_rfl) (by kernel_rfl) (fun _ _ _ h => h) (Or.inl ⟨by rfl, ?_⟩) (by assumption) ?_
                  · intro w' hSw
                    go_simp
                  simp only [List.getElem_toArray, List.getElem_cons_succ, List.getElem_cons_zero, Act.put, List.setIfInBounds_toArray, List.set_cons_zero, List.set_cons_succ]
                  refine wpAnyH_take (i := 2) (v := (.bool true)) rfl (by kernel_rfl) (by kernel_rfl) (by kernel_rfl) (fun _ _ _ h => h) (Or.inl ⟨by rfl, ?_⟩) (by assumption) ?_
                  · intro w' hSw
                    go_simp
                  simp only [List.getElem_toArray, List.getElem_cons_succ, List.getElem_cons_zero, Act.put, List.setIfInBounds_toArray, List.set_cons_zero, List.set_cons_succ]
                  refine wpAnyH_take (i := 3) (v := (.int .i64 0)) rfl (by kernel_rfl) (by kernel_rfl) (by kernel_rfl) (fun _ _ _ h => h) (Or.inl ⟨by rfl, ?_⟩) (by assumption) ?_
                  · intro w' hSw
                    go_simp
                  simp only [List.getElem_toArray, List.getElem_cons_succ, List.getElem_cons_zero, Act.put, List.setIfInBounds_toArray, List.set_cons_zero, List.set_cons_succ]
                  refine wpAnyH_take (i := 4) (v := (.bool false)) rfl (by kernel_rfl) (by kernel_rfl) (by kernel_rfl) (fun _ _ _ h => h) (Or.inl ⟨by rfl, ?_⟩) (by assumption) ?_
                  · intro w' hSw
                    go_simp
                  simp only [List.getElem_toArray, List.getElem_cons_succ, List.getElem_cons_zero, Act.put, List.setIfInBounds_toArray, List.set_cons_zero, List.set_cons_succ]
                  refine wpAnyH_take (i := 5) (v := (.bool false)) rfl (by kernel_rfl) (by kernel_rfl) (by kernel_rfl) (fun _ _ _ h => h) (Or.inl ⟨by rfl, ?_⟩) (by assumption) ?_
                  · intro w' hSw
                    go_simp
                  simp only [List.getElem_toArray, List.getElem_cons_succ, List.getElem_cons_zero, Act.put, List.setIfInBounds_toArray, List.set_cons_zero, List.set_cons_succ]
                  refine wpAnyH_take (i := 6) (v := .agg #[.slice m1 m2 m3, .slice m4 m5 m6, .slice m7 m8 m9]) rfl (by kernel_rfl) (by kernel_rfl) (by kernel_rfl) (fun _ _ _ h => h) (yields_rowJ (by rfl) 48 _ rfl w20.heap.size rfl 48 #[.slice m1 m2 m3, .slice m4 m5 m6, .slice m7 m8 m9] _ (fun w' hS => hS.1) Tryz.underlying48 rfl Tryz.infoV) (by assumption) ?_
                  simp only [List.getElem_toArray, List.getElem_cons_succ, List.getElem_cons_zero, Act.put, List.setIfInBounds_toArray, List.set_cons_zero, List.set_cons_succ]
                  refine wpAnyH_take (i := 8) (v := .agg #[.slice ta tn tz, .slice ka kn kz, .slice va vn vz]) rfl (by kernel_rfl) (by kernel_rfl) (by kernel_rfl) (fun _ _ _ h => h) (yields_rowJ (by rfl) 48 _ rfl w6.heap.size rfl 48 #[.slice ta tn tz, .slice ka kn kz, .slice va vn vz] _ (fun w' hS => hS.2) Tryz.underlying48 rfl Tryz.infoV) (by assumption) ?_
                  simp only [List.getElem_toArray, List.getElem_cons_succ, List.getElem_cons_zero, Act.put, List.setIfInBounds_toArray, List.set_cons_zero, List.set_cons_succ]
                  refine wpAnyH_ready (rs := [7]) (by kernel_rfl) (by simp) ?_
                  refine AllReadyH.cons rfl (fun Kc hKc => ?_) AllReadyH.nil
                  simp only [List.getElem_toArray, List.getElem_cons_succ, List.getElem_cons_zero]
                  rw [if_pos (by rfl)]
                  go_wp2_with fail
                  refine (TU _ UW).mono ?_
                  rintro e wB ⟨t9, k9, u9, rfl, T9, EM⟩
                  replace XU := XU.below EM
                  replace XV := XV.below EM
                  replace UW := UW.below EM
                  replace VW := VW.below EM
                  replace DW := below_then DW EM
                  clear EM
                  go_wp2_with fail
                  refine hKc.out _ _ (⟨XU, XV⟩) (fun hHeld => ?_)
                  clear hKc Kc
                  refine wpAnyH_ready (rs := [9]) (by kernel_rfl) (by simp) ?_
                  refine AllReadyH.cons rfl (fun Kc hKc => ?_) AllReadyH.nil
                  simp only [List.getElem_toArray, List.getElem_cons_succ, List.getElem_cons_zero]
                  rw [if_pos (by rfl)]
                  go_wp2_with fail
                  refine (TV _ VW).mono ?_
                  rintro e wC ⟨t8, k8, u8, rfl, T8, EM⟩
                  replace XU := XU.below EM
                  replace XV := XV.below EM
                  replace UW := UW.below EM
                  replace VW := VW.below EM
                  replace DW := below_then DW EM
                  replace T9 := T9.below EM
                  clear EM
                  go_wp2_with fail
                  refine hKc.out _ _ (⟨XU, XV⟩) (fun hHeld => ?_)
                  clear hKc Kc
                  refine wpAnyH_ready (rs := [10]) (by kernel_rfl) (by simp) ?_
                  refine AllReadyH.cons rfl (fun Kc hKc => ?_) AllReadyH.nil
                  simp only [List.getElem_toArray, List.getElem_cons_succ, List.getElem_cons_zero]
                  rw [if_pos (by rfl)]
                  go_wp2_with fail
                  refine (viewSame_eq t9 k9 u9 t8 k8 u8 X _ T9 T8).mono ?_
                  rintro e wD ⟨rfl, EM⟩
                  replace XU := XU.below EM
                  replace XV := XV.below EM
                  replace UW := UW.below EM
                  replace VW := VW.below EM
                  replace DW := below_then DW EM
                  clear T9 T8
                  clear EM
                  go_wp2_with fail
                  refine hKc.out _ _ (⟨XU, XV⟩) (fun hHeld => ?_)
                  clear hKc Kc
                  refine wpAnyH_take (i := 11) (v := (.bool true)) rfl (by kernel_rfl) (by kernel_rfl) (by kernel_rfl) (fun _ _ _ h => h) (Or.inl ⟨by rfl, ?_⟩) (by assumption) ?_
                  · intro w' hSw
                    go_simp
                  simp only [List.getElem_toArray, List.getElem_cons_succ, List.getElem_cons_zero, Act.put, List.setIfInBounds_toArray, List.set_cons_zero, List.set_cons_succ]
                  refine wpAnyH_take (i := 12) (v := (.bool true)) rfl (by kernel_rfl) (by kernel_rfl) (by kernel_rfl) (fun _ _ _ h => h) (Or.inl ⟨by rfl, ?_⟩) (by assumption) ?_
                  · intro w' hSw
                    go_simp
                  simp only [List.getElem_toArray, List.getElem_cons_succ, List.getElem_cons_zero, Act.put, List.setIfInBounds_toArray, List.set_cons_zero, List.set_cons_succ]
                  refine wpAnyH_take (i := 13) (v := (.bool true)) rfl (by kernel_rfl) (by kernel_rfl) (by kernel_rfl) (fun _ _ _ h => h) (Or.inl ⟨by rfl, ?_⟩) (by assumption) ?_
                  · intro w' hSw
                    go_simp
                  simp only [List.getElem_toArray, List.getElem_cons_succ, List.getElem_cons_zero, Act.put, List.setIfInBounds_toArray, List.set_cons_zero, List.set_cons_succ]
                  refine wpAnyH_done (by kernel_rfl) ?_ _
                  clear hHeld
                  go_wp2_with fail
                  go_ret
                  exact ⟨rfl, DW⟩
                · have hgi : decide ((gn : Int) > 0) = true := decide_eq_true (by omega)
                  have hli : decide (((NP - gn : Nat) : Int) > 0) = true := decide_eq_true (by omega)
                  obtain rfl : 0 = m2 := UW.t.row.len
                  have c0 : w5.cell? ⟨w20.heap.size, 0, none⟩ = some (.slice m1 0 m3) := XU.cell 0 rfl
                  go_wp2_with (refine wpList_store_row rfl 48 _ _ rfl w20.heap.size #[.slice m1 0 m3, .slice m4 m5 m6, .slice m7 m8 m9] rfl rfl 48 _ Z9 Tryz.infoV rfl (by simp [Value.oneCell']) ?_; rw [hz2])
                  go_ret
                  exact ⟨rfl, DW⟩
                · have hgi : decide ((gn : Int) > 0) = true := decide_eq_true (by omega)
                  have hli : decide (((NP - gn : Nat) : Int) > 0) = false := decide_eq_false (by omega)
                  go_upto_region 48 with (refine wpList_store_row rfl 48 _ _ rfl w20.heap.size #[.slice m1 m2 m3, .slice m4 m5 m6, .slice m7 m8 m9] rfl rfl 48 _ Z9 Tryz.infoV rfl (by simp [Value.oneCell']) ?_; rw [hz2])
                  have BD : Below w5.heap.size w5 w5.drew := (Below.refl _ w5).drew
                  replace XU := XU.below BD
                  replace XV := XV.below BD
                  replace UW := UW.below BD
                  replace VW := VW.below BD
                  replace DW := below_then DW BD
                  clear BD hz1 hz2 Z9
                  refine wp_region_held_drew (S := fun w' => Blk w' w20.heap.size 48 #[.slice m1 m2 m3, .slice m4 m5 m6, .slice m7 m8 m9] ∧ Blk w' w6.heap.size 48 #[.slice ta tn tz, .slice ka kn kz, .slice va vn vz]) (by kernel_rfl) (⟨XU, XV⟩) (fun hHeld => ?_)
                  generalize hA : w5.drew = wA at *
                  clear hA
                  refine wpAnyH_take (i := 0) (v := (.int .i64 0)) rfl (by kernel_rfl) (by kernel_rfl) (by kernel_rfl) (fun _ _ _ h => h) (Or.inl ⟨by rfl, ?_⟩) (by assumption) ?_
                  · intro w' hSw
                    go_simp
                  simp only [List.getElem_toArray, List.getElem_cons_zero, Act.put, List.setIfInBounds_toArray, List.set_cons_zero, List.set_cons_succ]
                  refine wpAnyH_take (i := 1) (v := (.bool true)) rfl (by kernel_rfl) (by kernel_rfl) (by kernel_rfl) (fun _ _ _ h => h) (Or.inl ⟨by rfl, ?_⟩) (by assumption) ?_
                  · intro w' hSw
                    go_simp
                  simp only [List.getElem_toArray, List.getElem_cons_succ, List.getElem_cons_zero, Act.put, List.setIfInBounds_toArray, List.set_cons_zero, List.set_cons_succ]
                  refine wpAnyH_take (i := 2) (v := (.bool true)) rfl (by kernel_rfl) (by kernel_rfl) (by kernel_rfl) (fun _ _ _ h => h) (Or.inl ⟨by rfl, ?_⟩) (by assumption) ?_
                  · intro w' hSw
                    go_simp
                  simp only [List.getElem_toArray, List.getElem_cons_succ, List.getElem_cons_zero, Act.put, List.setIfInBounds_toArray, List.set_cons_zero, List.set_cons_succ]
                  refine wpAnyH_take (i := 3) (v := (.int .i64 (gn : Int))) rfl (by kernel_rfl) (by kernel_rfl) (by kernel_rfl) (fun _ _ _ h => h) (Or.inl ⟨by rfl, ?_⟩) (by assumption) ?_
                  · intro w' hSw
                    go_simp
                  simp only [List.getElem_toArray, List.getElem_cons_succ, List.getElem_cons_zero, Act.put, List.setIfInBounds_toArray, List.set_cons_zero, List.set_cons_succ]
                  refine wpAnyH_take (i := 4) (v := (.bool true)) rfl (by kernel_rfl) (by kernel_rfl) (by kernel_rfl) (fun _ _ _ h => h) (Or.inl ⟨by rfl, ?_⟩) (by assumption) ?_
                  · intro w' hSw
                    go_simp
                  simp only [List.getElem_toArray, List.getElem_cons_succ, List.getElem_cons_zero, Act.put, List.setIfInBounds_toArray, List.set_cons_zero, List.set_cons_succ]
                  refine wpAnyH_take (i := 5) (v := (.bool true)) rfl (by kernel_rfl) (by kernel_rfl) (by kernel_rfl) (fun _ _ _ h => h) (Or.inl ⟨by rfl, ?_⟩) (by assumption) ?_
                  · intro w' hSw
                    go_simp
                  simp only [List.getElem_toArray, List.getElem_cons_succ, List.getElem_cons_zero, Act.put, List.setIfInBounds_toArray, List.set_cons_zero, List.set_cons_succ]
                  refine wpAnyH_take (i := 6) (v := undef) rfl (by kernel_rfl) (by kernel_rfl) (by kernel_rfl) (fun _ _ _ h => h) (Or.inr ⟨by rfl, rfl⟩) (by assumption) ?_
                  simp only [List.getElem_toArray, List.getElem_cons_succ, List.getElem_cons_zero, Act.put, List.setIfInBounds_toArray, List.set_cons_zero, List.set_cons_succ]
                  refine wpAnyH_take (i := 7) (v := undef) rfl (by kernel_rfl) (by kernel_rfl) (by kernel_rfl) (fun _ _ _ h => h) (Or.inr ⟨by rfl, rfl⟩) (by assumption) ?_
                  simp only [List.getElem_toArray, List.getElem_cons_succ, List.getElem_cons_zero, Act.put, List.setIfInBounds_toArray, List.set_cons_zero, List.set_cons_succ]
                  refine wpAnyH_take (i := 8) (v := undef) rfl (by kernel_rfl) (by kernel_rfl) (by kernel_rfl) (fun _ _ _ h => h) (Or.inr ⟨by rfl, rfl⟩) (by assumption) ?_
                  simp only [List.getElem_toArray, List.getElem_cons_succ, List.getElem_cons_zero, Act.put, List.setIfInBounds_toArray, List.set_cons_zero, List.set_cons_succ]
                  refine wpAnyH_take (i := 9) (v := undef) rfl (by kernel_rfl) (by kernel_rfl) (by kernel_rfl) (fun _ _ _ h => h) (Or.inr ⟨by rfl, rfl⟩) (by assumption) ?_
                  simp only [List.getElem_toArray, List.getElem_cons_succ, List.getElem_cons_zero, Act.put, List.setIfInBounds_toArray, List.set_cons_zero, List.set_cons_succ]
                  refine wpAnyH_take (i := 10) (v := undef) rfl (by kernel_rfl) (by kernel_rfl) (by kernel_rfl) (fun _ _ _ h => h) (Or.inr ⟨by rfl, rfl⟩) (by assumption) ?_
                  simp only [List.getElem_toArray, List.getElem_cons_succ, List.getElem_cons_zero, Act.put, List.setIfInBounds_toArray, List.set_cons_zero, List.set_cons_succ]
                  refine wpAnyH_take (i := 11) (v := (.bool true)) rfl (by kernel_rfl) (by kernel_rfl) (by kernel_rfl) (fun _ _ _ h => h) (Or.inl ⟨by rfl, ?_⟩) (by assumption) ?_
                  · intro w' hSw
                    go_simp
                  simp only [List.getElem_toArray, List.getElem_cons_succ, List.getElem_cons_zero, Act.put, List.setIfInBounds_toArray, List.set_cons_zero, List.set_cons_succ]
                  refine wpAnyH_take (i := 12) (v := (.bool true)) rfl (by kernel_rfl) (by kernel_rfl) (by kernel_rfl) (fun _ _ _ h => h) (Or.inl ⟨by rfl, ?_⟩) (by assumption) ?_
                  · intro w' hSw
                    go_simp
                  simp only [List.getElem_toArray, List.getElem_cons_succ, List.getElem_cons_zero, Act.put, List.setIfInBounds_toArray, List.set_cons_zero, List.set_cons_succ]
                  refine wpAnyH_take (i := 13) (v := (.bool true)) rfl (by kernel_rfl) (by kernel_rfl) (by kernel_rfl) (fun _ _ _ h => h) (Or.inl ⟨by rfl, ?_⟩) (by assumption) ?_
                  · intro w' hSw
                    go_simp
                  simp only [List.getElem_toArray, List.getElem_cons_succ, List.getElem_cons_zero, Act.put, List.setIfInBounds_toArray, List.set_cons_zero, List.set_cons_succ]
                  refine wpAnyH_done (by kernel_rfl) ?_ _
                  clear hHeld
                  go_wp2_with fail
                  go_ret
                  exact ⟨rfl, DW⟩
end Go.Proofs.YtcanjlofnpnhkaaGreatDoor

/- The given statement on TillerPaged: at every input the law returns true and its arguments read as before; the listed table lies as the program's text lays it (the card ties it). -/
namespace Go.Proofs.YtcanjlofnpnhkaaGreatDoor.tillerPaged
open Go.ChangeShapes Go.WideShapes Go.ChangeAt Go.WideMaps Go.WideElems Go.RowKit
set_option linter.unusedVariables false
abbrev lst : List (String × DataW Unit) := Rows.tillerPagedRow.laid
theorem door_met (os : Os) (args : Array Value) : laidMetH Tryz.prog lst ((World.doorLaid Tryz.prog 14 os).forCall (fun _ _ => 0) ⟨#[], args, []⟩).memory :=
  laidMetH_of_parts3 (fuel := 8) (laidMet_of_run' 8 (by kernel_rfl) (by kernel_rfl)) (by kernel_rfl) (by kernel_rfl)
set_option maxRecDepth 100000 in
theorem lifted (os : Os) (started : os.Started) (H : Type) (enc : TypeId × Value → H) :
    ReturnsInHanded {} Tryz.checked os 3 .any (fun w args => (Rows.tillerPagedSpec.pre enc Tryz.prog Tryz.f3 [] false w args ∧ laidMetH Tryz.prog lst w) ∧ sizedMet enc Tryz.prog Tryz.f3 (OpenSpec.ofChange Rows.tillerPagedSpec) false w args)
      (Rows.tillerPagedSpec.post enc Tryz.prog Tryz.f3 false true false false) := by
  refine returnsInHanded_of_change_and (C := Tryz.checked) (X := fun w _ => laidMetH Tryz.prog lst w) (fun _ _ _ hh h => h.of_heap hh) Tryz.own started (by kernel_rfl) Tryz.func3
    (ChangeSpec.witness_shaped (enc := enc) (C := Tryz.checked) (os := os) (X := fun w _ => laidMetH Tryz.prog lst w) false (World.doorLaid Tryz.prog 14 os) #[.agg #[.int .i64 0, .int .i64 0, .int .i64 0, .int .i64 0, .int .i64 0], .int .u64 0, .slice none 0 0, .int .i64 0] 8 rfl (World.shaped_of_RefB (by kernel_rfl) (by kernel_rfl)) (by kernel_rfl) (by kernel_rfl) (by kernel_rfl) (door_met os _)) ?_
  intro W base args ds gs before hval0 hW _ _ hL _
  have hval : ∀ (j : Nat) t v, Tryz.f3.params[j]? = some t → args[j]? = some v → Value.okWide Tryz.prog W .any base t v := hval0
  have hW' := hW
  obtain ⟨p, q, hA0, hV, rfl, _, _⟩ := hW
  have hA : DataW.TrodAll enc Tryz.prog W 0 (fun _ => true) true Tryz.f3.params.toList args.toList ds p := hA0
  rw [Tryz.params3] at hA hval
  obtain ⟨v0, vs0, d0, ds0, p0, q0, hargs, rfl, rfl, h0, r0⟩ := trodAll_cons hA
  obtain ⟨v1, vs1, d1, ds1, p1, q1, rfl, rfl, rfl, h1, r1⟩ := trodAll_cons r0
  obtain ⟨v2, vs2, d2, ds2, p2, q2, rfl, rfl, rfl, h2, r2⟩ := trodAll_cons r1
  obtain ⟨v3, vs3, d3, ds3, p3, q3, rfl, rfl, rfl, h3, r3⟩ := trodAll_cons r2
  obtain ⟨rfl, rfl, rfl⟩ := trodAll_nil r3
  obtain rfl : args = #[v0, v1, v2, v3] := by cases args; simp_all
  obtain ⟨rfl, rfl⟩ := trodVars_none hV
  have k0 := h0
  obtain ⟨C0, rfl, g0⟩ := viewCfg (hval 0 _ v0 rfl rfl) h0
  have k1 := h1
  obtain ⟨a1, rfl, rfl, rfl, w1⟩ := open_int Tryz.underlying24 (hval 1 24 v1 rfl rfl) h1
  have b1 := bounds_u64 w1
  have k2 := h2
  obtain ⟨a2, n2, c2, Z2, rfl, g2⟩ := viewI (hval 2 _ v2 rfl rfl) h2
  have k3 := h3
  obtain ⟨a3, rfl, rfl, rfl, w3⟩ := open_int Tryz.underlying3 (hval 3 3 v3 rfl rfl) h3
  have b3 := bounds_i64 w3
  clear hA0 hval0
  simp only [List.append_nil] at hW'
  have hlt : ∀ x ∈ p0 ++ p2, x.block < W.heap.size := fun x hx => by
    have hx2 := hx
    exact hW'.lt x (by grind)
  refine (tillerPaged_walk C0 a1 a2 n2 c2 Z2 a3 W g0 b1 g2 b3 (tab_of_laid hL)).mono fun e W' ⟨he, hb⟩ => ?_
  subst he
  exact ⟨_, rfl, _, _, _, [], _, [], hW', trodAll_mk1 (shut_bool Tryz.underlying4 true), trodAll_cons_mk (Below.trod Tryz.laidOut (by kernel_rfl) (of_decide_eq_true (by kernel_rfl)) k0 hb (fun x hx => hlt x (by simp [hx]))) (trodAll_cons_mk (shut_int Tryz.underlying24 w1) (trodAll_cons_mk (Below.trod Tryz.laidOut (by kernel_rfl) (of_decide_eq_true (by kernel_rfl)) k2 hb (fun x hx => hlt x (by simp [hx]))) (trodAll_cons_mk (shut_int Tryz.underlying3 w3) trodAll_mk0))), rfl, hb.frame _, fun h => by cases h⟩
theorem row_holds : Rows.TillerPagedSaid :=
  OpenClaim.holds_of_wide 3 Tryz.f3 rfl rfl rfl rfl rfl rfl rfl ⟨rfl, rfl, rfl, rfl, rfl⟩ rfl rfl rfl rfl rfl (by kernel_rfl) Tryz.func3 (by kernel_rfl)
    (of_decide_eq_true (by kernel_rfl)) (by unfold Func.isWrapper; first | (rw [if_pos (by decide +kernel)]; kernel_rfl) | (rw [if_neg (by decide +kernel)]; exact ⟨rfl, rfl⟩))
    (fun os started H enc _ => lifted os started H enc)
/-- The given statement. -/
theorem card_holds : Rows.TillerPagedCardSaid :=
  Claim7.holds_tied_plain_at .later [] [.data] true (true, "99f297051926c5b4068c6991ec6e4b771d79018e7a76ecea41b657c3ffeda621") false
    row_holds (fun _ h => by cases h) (by kernel_rfl) (fun _ h => by cases h) tillerPaged_row_tie rfl ⟨rfl, rfl⟩ (by kernel_rfl) rfl
    (fun f fn hf hfn => by
      obtain rfl : f = 3 := Option.some.inj ((show Tryz.prog.funcNamed Rows.tillerPagedRow.func = some 3 by kernel_rfl).symm.trans hf) |>.symm
      obtain rfl : fn = Tryz.f3 := (Option.some.inj (Tryz.func3.symm.trans hfn)).symm
      exact ⟨by kernel_rfl, fun j t ht => by
        rw [Tryz.params3] at ht
        have hm : t ∈ [23, 24, 25, 3] := by simpa using Array.mem_of_getElem? ht
        have hall : ([23, 24, 25, 3].all fun u => !Tryz.prog.wantsStandIn u) = true := by kernel_rfl
        exact (show Tryz.prog.wantsStandIn t = false by simpa using List.all_eq_true.1 hall t hm)⟩)
    (by kernel_rfl)
end Go.Proofs.YtcanjlofnpnhkaaGreatDoor.tillerPaged
namespace Go.Proofs.YtcanjlofnpnhkaaGreatDoor
theorem tillerPaged_holds : Rows.TillerPagedCardSaid := tillerPaged.card_holds
#print axioms tillerPaged_holds
end Go.Proofs.YtcanjlofnpnhkaaGreatDoor
