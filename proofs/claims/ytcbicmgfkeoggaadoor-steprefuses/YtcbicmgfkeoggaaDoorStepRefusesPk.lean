/- The given statement on StepRefuses: at every input the law returns true and its arguments read as before; the listed table lies as the program's text lays it (the card ties it). -/
import Derived.Test.YtcbicmgfkeoggaaDoorGP1Pk
import Derived.Test.YtcbicmgfkeoggaaDoorPk7
import Derived.Test.YtcbicmgfkeoggaaDoorRows
import Derived.Test.YtcbicmgfkeoggaaDoorCards
import Derived.Test.YtcbicmgfkeoggaaDoorTie
import Derived.Test.YtcbicmgfkeoggaaDoorPk8
import Derived.Test.YtcbicmgfkeoggaaDoorPk3
import Derived.ProofKit
import Derived.Carry
import Derived.LaidMore
import Derived.OpenShut
import Derived.Stop.Joined
import Derived.SevenTiedAt
/- A row of tokens of which one isn't in the vocabulary is refused as a whole: the walk. -/
namespace Go.Proofs.YtcbicmgfkeoggaaDoor
open Go.ChangeShapes Go.WideShapes Go.ChangeAt Go.RowKit
theorem own_cell {w : World} {B b n c : Nat} {A : List Int} (h : IOwn w B (.slice (some ⟨b, 0, none⟩) n c) n A) {p : Nat} (hp : p < n) : ∃ u, w.cell? ⟨b, p, none⟩ = some u := by
  have hl : A.length = n := by have := h.1; simpa using this
  have hc := World.ownsRow.cells h (g := b) rfl p (.int .i64 (el A p)) (by
    rw [List.getElem?_map, List.getElem?_eq_getElem (show p < A.length by omega)]
    unfold el
    simp [List.getD_eq_getElem?_getD, List.getElem?_eq_getElem (show p < A.length by omega)])
  have e2 : (Addr.mk b 0 none).add p = ⟨b, p, none⟩ := by simp [Addr.add]; intro h; exact h.symm
  rw [e2] at hc
  exact ⟨_, hc⟩
theorem own_frozen {w : World} {B b n c : Nat} {A : List Int} (h : IOwn w B (.slice (some ⟨b, 0, none⟩) n c) n A) (p : Nat) : w.frozen? ⟨b, p, none⟩ = false := by
  rcases h.2 with ⟨h3, _⟩ | ⟨g, cap, cur, hv, hg, hh, _⟩
  · cases h3
  · simp only [Value.slice.injEq, Option.some.injEq, Addr.mk.injEq, and_true, true_and] at hv
    obtain ⟨rfl, -⟩ := hv
    unfold World.frozen?; simp only [hh]; rfl
theorem own_set {w : World} {B b n c : Nat} {A : List Int} (h : IOwn w B (.slice (some ⟨b, 0, none⟩) n c) n A) {p : Nat} (_hp : p < A.length) {x : Int} : IOwn (w.setCell ⟨b, p, none⟩ (.int .i64 x)) B (.slice (some ⟨b, 0, none⟩) n c) n (A.set p x) := by
  have hl : A.length = n := by have := h.1; simpa using this
  rcases h.2 with ⟨h3, _⟩ | ⟨g, cap, cur, hv, hg, hh, h5, h6, h7, h8⟩
  · cases h3
  · simp only [Value.slice.injEq, Option.some.injEq, Addr.mk.injEq, and_true, true_and] at hv
    obtain ⟨rfl, rfl⟩ := hv
    refine ⟨by simp [hl], .inr ⟨b, c, cur.setIfInBounds p (.int .i64 x), rfl, hg, by simp [World.setCell, Array.getElem?_modify, hh], h5, h6, by simpa using h7, ?_⟩⟩
    rw [Array.toList_setIfInBounds, List.take_set, h8, List.map_set]
set_option maxRecDepth 100000 in
set_option maxHeartbeats 400000 in
theorem stepRefuses_walk (C : Cfg) (sd : Int) (a1 : Option Addr) (n1 c1 : Nat) (Z1 : List Int) (at' bad : Int) (w : World) (hC : C.Ok) (bs : 0 ≤ sd ∧ sd ≤ 18446744073709551615) (h1 : IArg w a1 n1 c1 Z1) (_bm : -9223372036854775808 ≤ at' ∧ at' ≤ 9223372036854775807) (bn : -9223372036854775808 ≤ bad ∧ bad ≤ 9223372036854775807) (hT : Tab w) :
   Calls Tryd.prog 6 #[C.val, .int .u64 sd, .slice a1 n1 c1, .int .i64 at', .int .i64 bad] w fun e w' => e = .returned (.bool true) ∧ Below w.heap.size w w' := by
  obtain ⟨seed, rfl⟩ : ∃ n : Nat, sd = n := ⟨sd.toNat, by omega⟩
  have hsd : seed < 18446744073709551616 := by omega
  clear bs
  have HT : Hid (∀ wv, Below w.heap.size w wv → Tab wv) := fun wv hb => hT.next hb
  have CW := fun (wv : World) (hb : Below w.heap.size w wv) => sawake_any wv (HT.out wv hb)
  have CF1 := fun (wv : World) (hb : Below w.heap.size w wv) => few8_any a1 n1 c1 Z1 8 wv (h1.below hb) (by omega)
  have s1 : ∀ k, -9223372036854775808 ≤ el (Z1.take 8) k ∧ el (Z1.take 8) k ≤ 9223372036854775807 := fun k => by
    rcases Nat.lt_or_ge k 8 with h | h
    · rw [el_take h]; exact h1.row.small k
    · rw [el_over (by rw [List.length_take]; omega)]; omega
  have hP8 : (Z1.take 8).length ≤ 8 := by rw [List.length_take]; omega
  have M0 := fun wv => make_gen C hC seed hsd wv
  have CS := fun wv => small8_any C.V C.D C.Hd C.H C.L wv
  have hu : ∀ C : Cfg, cfgC C.V C.D C.Hd C.H C.L = #[.int .i64 C.V, .int .i64 C.D, .int .i64 C.Hd, .int .i64 C.H, .int .i64 C.L] := fun _ => rfl
  unfold Cfg.val at *
  rw [hu] at M0 CS ⊢
  clear hT h1 hC
  have X0 := blk_new w 23 #[.int .i64 C.V, .int .i64 C.D, .int .i64 C.Hd, .int .i64 C.H, .int .i64 C.L]
  have B0 : Below w.heap.size w (w.alloc (.cells #[.int .i64 C.V, .int .i64 C.D, .int .i64 C.Hd, .int .i64 C.H, .int .i64 C.L] 23)) := (Below.refl _ _).alloc (Nat.le_refl _) _
  have z0 : w.heap.size < (w.alloc (.cells #[.int .i64 C.V, .int .i64 C.D, .int .i64 C.Hd, .int .i64 C.H, .int .i64 C.L] 23)).heap.size := by simp
  generalize hw0 : w.alloc (.cells #[.int .i64 C.V, .int .i64 C.D, .int .i64 C.Hd, .int .i64 C.H, .int .i64 C.L] 23) = w0 at *
  go_enter Tryd.func6, Tryd.ntmps6
  go_wp2_with fail
  refine (CF1 _ B0).mono ?_
  rintro e w1 ⟨b1, kq, rfl, O1, B1⟩
  generalize Z1.take 8 = P at *
  obtain ⟨l1, hl1⟩ : ∃ l1, P.length = l1 := ⟨_, rfl⟩
  have HL1 : Hid (P.length = l1) := hl1
  rw [hl1] at O1 hP8 ⊢
  clear hl1
  have D1 := below_then B0 B1
  replace X0 := X0.below B1
  clear hw0 CF1 B0 B1
  obtain ⟨x1, y1, e1, I1⟩ := IOwn.arg O1 s1
  simp only [Value.slice.injEq, true_and] at e1
  obtain ⟨rfl, rfl⟩ := e1
  have HI : Hid (∀ wv, Below w1.heap.size w1 wv → IOwn wv w0.heap.size (.slice (some ⟨b1, 0, none⟩) l1 kq) l1 P) := fun wv hb => owns_below O1 hb
  have ltb : b1 < w1.heap.size := (O1.lt b1 rfl).2
  have geb : w0.heap.size ≤ b1 := (O1.lt b1 rfl).1
  have gw0 : w.heap.size < w0.heap.size := z0
  clear O1 I1
  have a0 : w1.cell? ⟨w.heap.size, 0, none⟩ = some (.int .i64 C.V) := X0.cell 0 rfl
  have a1 : w1.cell? ⟨w.heap.size, 1, none⟩ = some (.int .i64 C.D) := X0.cell 1 rfl
  have a2 : w1.cell? ⟨w.heap.size, 2, none⟩ = some (.int .i64 C.Hd) := X0.cell 2 rfl
  have a3 : w1.cell? ⟨w.heap.size, 3, none⟩ = some (.int .i64 C.H) := X0.cell 3 rfl
  have a4 : w1.cell? ⟨w.heap.size, 4, none⟩ = some (.int .i64 C.L) := X0.cell 4 rfl
  go_wp2_with fail
  refine (M0 w1).mono ?_
  rintro e w2 ⟨ws, q, rfl, MM, B2⟩
  replace X0 := X0.below B2
  have E2 := B2
  have EW := B2
  have D2 := below_then D1 B2
  clear a0 a1 a2 a3 a4 M0 B2 D1
  have siz := MM.size
  have one := MM.one
  have XZ := blk_new w2 32 #[.int .i64 0, .int .i64 0, .slice none 0 0, .slice none 0 0, .slice none 0 0, .int .i64 0, .int .i64 0, .slice none 0 0]
  have BZ : Below w2.heap.size w2 (w2.alloc (.cells #[.int .i64 0, .int .i64 0, .slice none 0 0, .slice none 0 0, .slice none 0 0, .int .i64 0, .int .i64 0, .slice none 0 0] 32)) := (Below.refl _ _).alloc (Nat.le_refl _) _
  generalize hwz : w2.alloc (.cells #[.int .i64 0, .int .i64 0, .slice none 0 0, .slice none 0 0, .slice none 0 0, .int .i64 0, .int .i64 0, .slice none 0 0] 32) = wz at *
  have X1 := XZ.row ws
  have BR := below_setRow BZ (Nat.le_refl _) ws
  generalize hwy : wz.setRow w2.heap.size ws = wy at *
  replace X0 := X0.below BR
  replace MM := MM.below BR
  have D3 := below_then D2 BR
  have E3 := below_then E2 BR
  have a0 : wy.cell? ⟨w.heap.size, 0, none⟩ = some (.int .i64 C.V) := X0.cell 0 rfl
  have a1 : wy.cell? ⟨w.heap.size, 1, none⟩ = some (.int .i64 C.D) := X0.cell 1 rfl
  have a2 : wy.cell? ⟨w.heap.size, 2, none⟩ = some (.int .i64 C.Hd) := X0.cell 2 rfl
  have a3 : wy.cell? ⟨w.heap.size, 3, none⟩ = some (.int .i64 C.H) := X0.cell 3 rfl
  have a4 : wy.cell? ⟨w.heap.size, 4, none⟩ = some (.int .i64 C.L) := X0.cell 4 rfl
  by_cases hq : q = 0
  · subst hq
    obtain ⟨V, D, Hd, H, L, ge, gB, gl, go, e1, e2, e3, e4, e5, hcs, MW⟩ := MM.ok rfl
    have hsh : shapeN V D Hd H L = 0 := by rw [← e1, ← e2, ← e3, ← e4, ← e5]; exact MM.err.symm
    obtain ⟨bs, GD⟩ := made_good (Hd := Hd) MW hsh
    have hws : (mkW V D L ge gB gl go).cells = ws := by rw [hcs]; rfl
    obtain ⟨VV, DD, HHd, HH, LL⟩ := C
    simp only at e1 e2 e3 e4 e5
    subst e1 e2 e3 e4 e5
    have hk := shape_ok hsh
    clear MM MW hcs GD hws
    go_wp2_with (refine wpList_store_row rfl 32 _ _ rfl w2.heap.size ws rfl rfl 32 _ XZ (by rw [siz]; exact Tryd.infoW) (by rw [siz]; rfl) one ?_; rw [hwy])
    refine (CS _).mono ?_
    rintro e w4 ⟨rfl, B4⟩
    replace X0 := X0.below B4
    replace X1 := X1.below B4
    have D4 := below_then D3 B4
    have E4 := below_then E3 B4
    clear a0 a1 a2 a3 a4 hwz hwy XZ BZ BR CS D2 D3 E2 E3 B4
    generalize smallN (D : Int) (H : Int) (L : Int) = sq at *
    have a0 : w4.cell? ⟨w.heap.size, 0, none⟩ = some (.int .i64 (V : Int)) := X0.cell 0 rfl
    have a1 : w4.cell? ⟨w.heap.size, 1, none⟩ = some (.int .i64 (D : Int)) := X0.cell 1 rfl
    have a2 : w4.cell? ⟨w.heap.size, 2, none⟩ = some (.int .i64 (Hd : Int)) := X0.cell 2 rfl
    have a3 : w4.cell? ⟨w.heap.size, 3, none⟩ = some (.int .i64 (H : Int)) := X0.cell 3 rfl
    have a4 : w4.cell? ⟨w.heap.size, 4, none⟩ = some (.int .i64 (L : Int)) := X0.cell 4 rfl
    by_cases hs0 : sq = 0
    · subst hs0
      go_wp2_with fail
      refine (CW _ D4).mono ?_
      rintro e wq ⟨rfl, Bq⟩
      go_wp2
      go_ret
      exact ⟨rfl, below_then D4 Bq⟩
    · have hs0' : (sq == 0) = false := by simpa using hs0
      by_cases ha1 : at' < 0
      · skip
        go_wp2_with fail
        refine (CW _ D4).mono ?_
        rintro e wq ⟨rfl, Bq⟩
        go_wp2
        go_ret
        exact ⟨rfl, below_then D4 Bq⟩
      · by_cases ha2 : (l1 : Int) ≤ at'
        · skip
          go_wp2_with fail
          refine (CW _ D4).mono ?_
          rintro e wq ⟨rfl, Bq⟩
          go_wp2
          go_ret
          exact ⟨rfl, below_then D4 Bq⟩
        · by_cases hb1 : 0 ≤ bad ∧ bad < (V : Int)
          · obtain ⟨hb1, hb2⟩ := hb1
            go_wp2_with fail
            refine (CW _ D4).mono ?_
            rintro e wq ⟨rfl, Bq⟩
            go_wp2
            go_ret
            exact ⟨rfl, below_then D4 Bq⟩
          · obtain ⟨p, rfl⟩ : ∃ p : Nat, at' = p := ⟨at'.toNat, by omega⟩
            have hp : p < l1 := by omega
            have O4 := HI.out w4 E4
            have OS : Hid (IOwn (w4.setCell ⟨b1, p, none⟩ (.int .i64 bad)) w0.heap.size (.slice (some ⟨b1, 0, none⟩) l1 kq) l1 (P.set p bad)) := own_set O4 (by rw [HL1.out]; exact hp)
            have hbd : (0 ≤ bad → (V : Int) ≤ bad) := fun h => by
              rcases Int.lt_or_le bad V with h9 | h9
              · exact absurd ⟨h, h9⟩ hb1
              · exact h9
            have hpr : promptN V (P.set p bad) = 7 := by
              unfold promptN
              rw [List.length_set, HL1.out, if_neg (by omega), if_neg (by omega)]
              have : (P.set p bad).all (tokB V) = false := all_not (k := p) (by rw [List.length_set, HL1.out]; exact hp) (by
                rw [el_set (by rw [HL1.out]; exact hp), if_pos rfl]
                unfold tokB
                exact decide_eq_false hb1)
              rw [this]
              rfl
            have sb : ∀ k, -9223372036854775808 ≤ el (P.set p bad) k ∧ el (P.set p bad) k ≤ 9223372036854775807 := fun k => by
              rw [el_set (by rw [HL1.out]; exact hp)]
              split
              · exact bn
              · exact s1 k
            obtain ⟨x5, y5, e5, AQ⟩ := IOwn.arg OS.out sb
            simp only [Value.slice.injEq, true_and] at e5
            obtain ⟨rfl, rfl⟩ := e5
            have CQ := fun cv => all_bad V D Hd H L ws cv (some ⟨b1, 0, none⟩) l1 kq (P.set p bad) _ AQ (by rw [hpr]; simp)
            rw [hpr] at CQ
            unfold cfgC noV at CQ
            have cp : ∃ u, w4.cell? ⟨b1, p, none⟩ = some u := own_cell O4 hp
            obtain ⟨u, cu⟩ := cp
            have fz : w4.frozen? ⟨b1, p, none⟩ = false := own_frozen O4 p
            have E5 := E4
            have D5 := D4.setCell (p := ⟨b1, p, none⟩) (by show w.heap.size ≤ b1; omega) (.int .i64 bad)
            have X5 := X0.other (a := ⟨b1, p, none⟩) (by show w.heap.size ≠ b1; omega) (.int .i64 bad)
            have lt2 := E4.size
            have Y5 : Blk (w4.setCell ⟨b1, p, none⟩ (.int .i64 bad)) w2.heap.size 32 ws := X1.other (a := ⟨b1, p, none⟩) (by show w2.heap.size ≠ b1; have := EW.size; omega) (.int .i64 bad)
            generalize hw5 : w4.setCell ⟨b1, p, none⟩ (.int .i64 bad) = w5 at *
            by_cases h0b : 0 ≤ bad
            · have h0d : ¬ bad < (V : Int) := by have := hbd h0b; omega
              clear hbd hb1
              clear X0 X1
              have X0 := X5
              have X1 := Y5
              have d0 : w5.cell? ⟨w.heap.size, 0, none⟩ = some (.int .i64 (V : Int)) := X0.cell 0 rfl
              have d1 : w5.cell? ⟨w.heap.size, 1, none⟩ = some (.int .i64 (D : Int)) := X0.cell 1 rfl
              have d2 : w5.cell? ⟨w.heap.size, 2, none⟩ = some (.int .i64 (Hd : Int)) := X0.cell 2 rfl
              have d3 : w5.cell? ⟨w.heap.size, 3, none⟩ = some (.int .i64 (H : Int)) := X0.cell 3 rfl
              have d4 : w5.cell? ⟨w.heap.size, 4, none⟩ = some (.int .i64 (L : Int)) := X0.cell 4 rfl
              go_wp2_with (refine wpList_load_row rfl 32 _ rfl w2.heap.size rfl 32 ws (0, 0) _ X1 Tryd.underlying32 rfl (by rw [siz]; exact Tryd.infoW) ?_)
              refine (CQ _).mono ?_
              rintro e w6 ⟨rfl, B6⟩
              have D6 := below_then D5 B6
              have XA := blk_new w6 42 #[.slice none 0 0, .slice none 0 0, .slice none 0 0]
              have BA : Below w6.heap.size w6 (w6.alloc (.cells #[.slice none 0 0, .slice none 0 0, .slice none 0 0] 42)) := (Below.refl _ _).alloc (Nat.le_refl _) _
              generalize hwa : w6.alloc (.cells #[.slice none 0 0, .slice none 0 0, .slice none 0 0] 42) = wa at *
              have XB := XA.row #[.slice none 0 0, .slice none 0 0, .slice none 0 0]
              have BB := below_setRow BA (Nat.le_refl _) #[.slice none 0 0, .slice none 0 0, .slice none 0 0]
              generalize hwb : wa.setRow w6.heap.size #[.slice none 0 0, .slice none 0 0, .slice none 0 0] = wb at *
              have hall : Array.all (#[.slice none 0 0, .slice none 0 0, .slice none 0 0] : Array Value) (fun v => v.oneCell') = true := by simp [Value.oneCell']
              have D7 := below_then D6 BB
              clear d0 d1 d2 d3 d4 CQ
              go_wp2_with (refine wpList_store_row rfl 42 _ _ rfl w6.heap.size #[.slice none 0 0, .slice none 0 0, .slice none 0 0] rfl rfl 42 _ XA Tryd.infoV rfl hall ?_; rw [hwb])
              refine (CW _ D7).mono ?_
              rintro e w8 ⟨rfl, B8⟩
              have XC := XB.below B8
              have c0 : w8.cell? ⟨w6.heap.size, 0, none⟩ = some (.slice none 0 0) := XC.cell 0 rfl
              have c1' : w8.cell? ⟨w6.heap.size, 1, none⟩ = some (.slice none 0 0) := XC.cell 1 rfl
              go_wp2
              go_ret
              exact ⟨rfl, below_then D7 B8⟩
            · have h0c : ¬ 0 ≤ bad := h0b
              clear hbd hb1
              clear X0 X1
              have X0 := X5
              have X1 := Y5
              have d0 : w5.cell? ⟨w.heap.size, 0, none⟩ = some (.int .i64 (V : Int)) := X0.cell 0 rfl
              have d1 : w5.cell? ⟨w.heap.size, 1, none⟩ = some (.int .i64 (D : Int)) := X0.cell 1 rfl
              have d2 : w5.cell? ⟨w.heap.size, 2, none⟩ = some (.int .i64 (Hd : Int)) := X0.cell 2 rfl
              have d3 : w5.cell? ⟨w.heap.size, 3, none⟩ = some (.int .i64 (H : Int)) := X0.cell 3 rfl
              have d4 : w5.cell? ⟨w.heap.size, 4, none⟩ = some (.int .i64 (L : Int)) := X0.cell 4 rfl
              go_wp2_with (refine wpList_load_row rfl 32 _ rfl w2.heap.size rfl 32 ws (0, 0) _ X1 Tryd.underlying32 rfl (by rw [siz]; exact Tryd.infoW) ?_)
              refine (CQ _).mono ?_
              rintro e w6 ⟨rfl, B6⟩
              have D6 := below_then D5 B6
              have XA := blk_new w6 42 #[.slice none 0 0, .slice none 0 0, .slice none 0 0]
              have BA : Below w6.heap.size w6 (w6.alloc (.cells #[.slice none 0 0, .slice none 0 0, .slice none 0 0] 42)) := (Below.refl _ _).alloc (Nat.le_refl _) _
              generalize hwa : w6.alloc (.cells #[.slice none 0 0, .slice none 0 0, .slice none 0 0] 42) = wa at *
              have XB := XA.row #[.slice none 0 0, .slice none 0 0, .slice none 0 0]
              have BB := below_setRow BA (Nat.le_refl _) #[.slice none 0 0, .slice none 0 0, .slice none 0 0]
              generalize hwb : wa.setRow w6.heap.size #[.slice none 0 0, .slice none 0 0, .slice none 0 0] = wb at *
              have hall : Array.all (#[.slice none 0 0, .slice none 0 0, .slice none 0 0] : Array Value) (fun v => v.oneCell') = true := by simp [Value.oneCell']
              have D7 := below_then D6 BB
              clear d0 d1 d2 d3 d4 CQ
              go_wp2_with (refine wpList_store_row rfl 42 _ _ rfl w6.heap.size #[.slice none 0 0, .slice none 0 0, .slice none 0 0] rfl rfl 42 _ XA Tryd.infoV rfl hall ?_; rw [hwb])
              refine (CW _ D7).mono ?_
              rintro e w8 ⟨rfl, B8⟩
              have XC := XB.below B8
              have c0 : w8.cell? ⟨w6.heap.size, 0, none⟩ = some (.slice none 0 0) := XC.cell 0 rfl
              have c1' : w8.cell? ⟨w6.heap.size, 1, none⟩ = some (.slice none 0 0) := XC.cell 1 rfl
              go_wp2
              go_ret
              exact ⟨rfl, below_then D7 B8⟩
  · have hq' : (q == 0) = false := by simpa using hq
    go_wp2_with (refine wpList_store_row rfl 32 _ _ rfl w2.heap.size ws rfl rfl 32 _ XZ (by rw [siz]; exact Tryd.infoW) (by rw [siz]; rfl) one ?_; rw [hwy])
    refine (CW _ D3).mono ?_
    rintro e w4 ⟨rfl, B4⟩
    go_wp2
    go_ret
    exact ⟨rfl, below_then D3 B4⟩
end Go.Proofs.YtcbicmgfkeoggaaDoor

/- The given statement on StepRefuses: at every input the law returns true and its arguments read as before; the listed table lies as the program's text lays it (the card ties it). -/
namespace Go.Proofs.YtcbicmgfkeoggaaDoor.stepRefuses
open Go.ChangeShapes Go.WideShapes Go.ChangeAt Go.WideMaps Go.WideElems Go.RowKit
set_option linter.unusedVariables false
abbrev lst : List (String × DataW Unit) := Rows.stepRefusesRow.laid
theorem door_met (os : Os) (args : Array Value) : laidMetH Tryd.prog lst ((World.doorLaid Tryd.prog 14 os).forCall (fun _ _ => 0) ⟨#[], args, []⟩).memory :=
  laidMetH_of_parts3 (fuel := 8) (laidMet_of_run' 8 (by kernel_rfl) (by kernel_rfl)) (by kernel_rfl) (by kernel_rfl)
set_option maxRecDepth 100000 in
theorem lifted (os : Os) (started : os.Started) (H : Type) (enc : TypeId × Value → H) :
    ReturnsInHanded {} Tryd.checked os 6 .any (fun w args => (Rows.stepRefusesSpec.pre enc Tryd.prog Tryd.f6 [] false w args ∧ laidMetH Tryd.prog lst w) ∧ sizedMet enc Tryd.prog Tryd.f6 (OpenSpec.ofChange Rows.stepRefusesSpec) false w args)
      (Rows.stepRefusesSpec.post enc Tryd.prog Tryd.f6 false true false false) := by
  refine returnsInHanded_of_change_and (C := Tryd.checked) (X := fun w _ => laidMetH Tryd.prog lst w) (fun _ _ _ hh h => h.of_heap hh) Tryd.own started (by kernel_rfl) Tryd.func6
    (ChangeSpec.witness_shaped (enc := enc) (C := Tryd.checked) (os := os) (X := fun w _ => laidMetH Tryd.prog lst w) false (World.doorLaid Tryd.prog 14 os) #[.agg #[.int .i64 0, .int .i64 0, .int .i64 0, .int .i64 0, .int .i64 0], .int .u64 0, .slice none 0 0, .int .i64 0, .int .i64 0] 8 rfl (World.shaped_of_RefB (by kernel_rfl) (by kernel_rfl)) (by kernel_rfl) (by kernel_rfl) (by kernel_rfl) (door_met os _)) ?_
  intro W base args ds gs before hval0 hW _ _ hL _
  have hval : ∀ (j : Nat) t v, Tryd.f6.params[j]? = some t → args[j]? = some v → Value.okWide Tryd.prog W .any base t v := hval0
  have hW' := hW
  obtain ⟨p, q, hA0, hV, rfl, _, _⟩ := hW
  have hA : DataW.TrodAll enc Tryd.prog W 0 (fun _ => true) true Tryd.f6.params.toList args.toList ds p := hA0
  rw [Tryd.params6] at hA hval
  obtain ⟨v0, vs0, d0, ds0, p0, q0, hargs, rfl, rfl, h0, r0⟩ := trodAll_cons hA
  obtain ⟨v1, vs1, d1, ds1, p1, q1, rfl, rfl, rfl, h1, r1⟩ := trodAll_cons r0
  obtain ⟨v2, vs2, d2, ds2, p2, q2, rfl, rfl, rfl, h2, r2⟩ := trodAll_cons r1
  obtain ⟨v3, vs3, d3, ds3, p3, q3, rfl, rfl, rfl, h3, r3⟩ := trodAll_cons r2
  obtain ⟨v4, vs4, d4, ds4, p4, q4, rfl, rfl, rfl, h4, r4⟩ := trodAll_cons r3
  obtain ⟨rfl, rfl, rfl⟩ := trodAll_nil r4
  obtain rfl : args = #[v0, v1, v2, v3, v4] := by cases args; simp_all
  obtain ⟨rfl, rfl⟩ := trodVars_none hV
  have k0 := h0
  obtain ⟨C0, rfl, g0⟩ := viewCfg (hval 0 _ v0 rfl rfl) h0
  have k1 := h1
  obtain ⟨a1, rfl, rfl, rfl, w1⟩ := open_int Tryd.underlying24 (hval 1 24 v1 rfl rfl) h1
  have b1 := bounds_u64 w1
  have k2 := h2
  obtain ⟨a2, n2, c2, Z2, rfl, g2⟩ := viewI (hval 2 _ v2 rfl rfl) h2
  have k3 := h3
  obtain ⟨a3, rfl, rfl, rfl, w3⟩ := open_int Tryd.underlying3 (hval 3 3 v3 rfl rfl) h3
  have b3 := bounds_i64 w3
  have k4 := h4
  obtain ⟨a4, rfl, rfl, rfl, w4⟩ := open_int Tryd.underlying3 (hval 4 3 v4 rfl rfl) h4
  have b4 := bounds_i64 w4
  clear hA0 hval0
  simp only [List.append_nil] at hW'
  have hlt : ∀ x ∈ p0 ++ p2, x.block < W.heap.size := fun x hx => by
    have hx2 := hx
    exact hW'.lt x (by grind)
  refine (stepRefuses_walk C0 a1 a2 n2 c2 Z2 a3 a4 W g0 b1 g2 b3 b4 (tab_of_laid hL)).mono fun e W' ⟨he, hb⟩ => ?_
  subst he
  exact ⟨_, rfl, _, _, _, [], _, [], hW', trodAll_mk1 (shut_bool Tryd.underlying4 true), trodAll_cons_mk (Below.trod Tryd.laidOut (by kernel_rfl) (of_decide_eq_true (by kernel_rfl)) k0 hb (fun x hx => hlt x (by simp [hx]))) (trodAll_cons_mk (shut_int Tryd.underlying24 w1) (trodAll_cons_mk (Below.trod Tryd.laidOut (by kernel_rfl) (of_decide_eq_true (by kernel_rfl)) k2 hb (fun x hx => hlt x (by simp [hx]))) (trodAll_cons_mk (shut_int Tryd.underlying3 w3) (trodAll_cons_mk (shut_int Tryd.underlying3 w4) trodAll_mk0)))), rfl, hb.frame _, fun h => by cases h⟩
theorem row_holds : Rows.StepRefusesSaid :=
  OpenClaim.holds_of_wide 6 Tryd.f6 rfl rfl rfl rfl rfl rfl rfl ⟨rfl, rfl, rfl, rfl, rfl⟩ rfl rfl rfl rfl rfl (by kernel_rfl) Tryd.func6 (by kernel_rfl)
    (of_decide_eq_true (by kernel_rfl)) (by unfold Func.isWrapper; first | (rw [if_pos (by decide +kernel)]; kernel_rfl) | (rw [if_neg (by decide +kernel)]; exact ⟨rfl, rfl⟩))
    (fun os started H enc _ => lifted os started H enc)
/-- The given statement. -/
theorem card_holds : Rows.StepRefusesCardSaid :=
  Claim7.holds_tied_plain_at .later [] [.data] true (true, "fbe80f2afbd55e80cd452f0a326efe67d4b9912c148d55caef3d482b5b67f082") false
    row_holds (fun _ h => by cases h) (by kernel_rfl) (fun _ h => by cases h) stepRefuses_row_tie rfl ⟨rfl, rfl⟩ (by kernel_rfl) rfl
    (fun f fn hf hfn => by
      obtain rfl : f = 6 := Option.some.inj ((show Tryd.prog.funcNamed Rows.stepRefusesRow.func = some 6 by kernel_rfl).symm.trans hf) |>.symm
      obtain rfl : fn = Tryd.f6 := (Option.some.inj (Tryd.func6.symm.trans hfn)).symm
      exact ⟨by kernel_rfl, fun j t ht => by
        rw [Tryd.params6] at ht
        have hm : t ∈ [23, 24, 25, 3, 3] := by simpa using Array.mem_of_getElem? ht
        have hall : ([23, 24, 25, 3, 3].all fun u => !Tryd.prog.wantsStandIn u) = true := by kernel_rfl
        exact (show Tryd.prog.wantsStandIn t = false by simpa using List.all_eq_true.1 hall t hm)⟩)
    (by kernel_rfl)
end Go.Proofs.YtcbicmgfkeoggaaDoor.stepRefuses
namespace Go.Proofs.YtcbicmgfkeoggaaDoor
theorem stepRefuses_holds : Rows.StepRefusesCardSaid := stepRefuses.card_holds
#print axioms stepRefuses_holds
end Go.Proofs.YtcbicmgfkeoggaaDoor
