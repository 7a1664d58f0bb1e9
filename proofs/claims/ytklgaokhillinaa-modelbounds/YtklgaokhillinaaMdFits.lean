/- Whether all numbers fit a configuration. -/
import Derived.Test.YtklgaokhillinaaMdFitB
namespace Go.Proofs.Ytklgaokhillinaa
open Go.ChangeShapes Go.WideShapes Go.ChangeAt Go.RowKit
/-- In w the slice b reads as the layers bs. -/
structure BlocksAt (w : World) (b : Sl) (bs : List Bk) : Prop where
  len : bs.length = b.n
  max : b.n ≤ 9223372036854775807
  ok : ∀ x ∈ bs, x.Ok
  cells : 0 < b.n → ∃ g o, b.ao = some ⟨g, o, none⟩ ∧ ∀ (t : Nat) (x : Bk), bs[t]? = some x → w.rangeAt g (o + t * 20) x.cells.toList
theorem BlocksAt.below {w w' : World} {b : Sl} {bs : List Bk} (h : BlocksAt w b bs) (hb : Below w.heap.size w w') : BlocksAt w' b bs := by
  refine ⟨h.len, h.max, h.ok, fun hn => ?_⟩
  obtain ⟨g, o, e, hc⟩ := h.cells hn
  refine ⟨g, o, e, fun t x hx => ?_⟩
  have r := hc t x hx
  have c0 := r 0 x.f.v rfl
  have hlt : g < w.heap.size := by simpa using World.block_lt_of_cell? w _ c0
  exact rangeAt_block r (hb.block g hlt)
def fitsB (V D H L : Int) (W : Wt) (bs : List Bk) : Bool := sidesB W.e V D && sidesB W.o V D && decide ((W.l.n : Int) = D) && decide ((W.b.n : Int) = L) && bs.all (bkB D H)
structure Wt.Ok (W : Wt) : Prop where
  e : W.e.Ok
  l : W.l.n ≤ 9223372036854775807
  o : W.o.Ok
theorem bk_one (b : Bk) : b.cells.all (·.oneCell') = true := by simp [Bk.cells, bcs, Sl.v, Value.oneCell']
theorem bk_size (b : Bk) : b.cells.size = 20 := rfl
theorem all_take {bs : List Bk} {p : Bk → Bool} {t : Nat} {x : Bk} (h : bs[t]? = some x) : (bs.take (t + 1)).all p = ((bs.take t).all p && p x) := by
  rw [List.take_add_one, h, List.all_append]; simp
set_option maxRecDepth 100000 in
set_option maxHeartbeats 3200000 in
theorem fits_any (V D Hd H L : Int) (W : Wt) (bs : List Bk) (w : World) (hW : W.Ok) (hb : BlocksAt w W.b bs) (hD : I64 D) (hL : I64 L) :
   Calls Try.prog 25 #[.agg (cfgC V D Hd H L), .agg W.cells] w fun e w' => e = .returned (.bool (fitsB V D H L W bs)) ∧ Below w.heap.size w w' := by
  have HE := fun wv => hasSides_any W.e V D wv hW.e
  have HO := fun wv => hasSides_any W.o V D wv hW.o
  have HX := fun (x : Bk) (hx : x.Ok) wv => blockFits_any V D Hd H L x wv hx hD
  have hl := hW.l
  clear hW
  have HB : Hid (fitsB V D H L W bs = (sidesB W.e V D && sidesB W.o V D && decide ((W.l.n : Int) = D) && decide ((W.b.n : Int) = L) && bs.all (bkB D H))) := rfl
  generalize fitsB V D H L W bs = res at *
  generalize sidesB W.e V D = xe at *
  generalize sidesB W.o V D = xo at *
  obtain ⟨⟨er, ec, ⟨ea, en, ez⟩⟩, ⟨ba, bn, bz⟩, ⟨la, ln, lz⟩, ⟨or, oc, ⟨oa, on, oz⟩⟩⟩ := W
  unfold I64 at hD hL
  have hmax := hb.max
  simp only at hmax hl HB
  show Calls Try.prog 25 #[.agg #[.int .i64 V, .int .i64 D, .int .i64 Hd, .int .i64 H, .int .i64 L], .agg #[.int .i64 er, .int .i64 ec, .slice ea en ez, .slice ba bn bz, .slice la ln lz, .int .i64 or, .int .i64 oc, .slice oa on oz]] w _
  have X0 := blk_new w 23 #[.int .i64 V, .int .i64 D, .int .i64 Hd, .int .i64 H, .int .i64 L]
  have B0 : Below w.heap.size w (w.alloc (.cells #[.int .i64 V, .int .i64 D, .int .i64 Hd, .int .i64 H, .int .i64 L] 23)) := (Below.refl _ _).alloc (Nat.le_refl _) _
  have s0 : (w.alloc (.cells #[.int .i64 V, .int .i64 D, .int .i64 Hd, .int .i64 H, .int .i64 L] 23)).heap.size = w.heap.size + 1 := by simp
  generalize hw0 : w.alloc (.cells #[.int .i64 V, .int .i64 D, .int .i64 Hd, .int .i64 H, .int .i64 L] 23) = w0 at *
  have X1 := blk_new w0 29 #[.int .i64 er, .int .i64 ec, .slice ea en ez, .slice ba bn bz, .slice la ln lz, .int .i64 or, .int .i64 oc, .slice oa on oz]
  have B1 : Below w0.heap.size w0 (w0.alloc (.cells #[.int .i64 er, .int .i64 ec, .slice ea en ez, .slice ba bn bz, .slice la ln lz, .int .i64 or, .int .i64 oc, .slice oa on oz] 29)) := (Below.refl _ _).alloc (Nat.le_refl _) _
  rw [s0] at X1
  generalize hw1 : w0.alloc (.cells #[.int .i64 er, .int .i64 ec, .slice ea en ez, .slice ba bn bz, .slice la ln lz, .int .i64 or, .int .i64 oc, .slice oa on oz] 29) = w1 at *
  replace X0 := X0.below B1
  replace B1 := below_then B0 B1
  replace hb := hb.below B1
  unfold matV at *
  simp only at HE HO
  have a0 : w1.cell? ⟨w.heap.size, 0, none⟩ = some (.int .i64 V) := X0.cell 0 rfl
  have a1 : w1.cell? ⟨w.heap.size, 1, none⟩ = some (.int .i64 D) := X0.cell 1 rfl
  have b0 : w1.cell? ⟨w.heap.size + 1, 0, none⟩ = some (.int .i64 er) := X1.cell 0 rfl
  have b1 : w1.cell? ⟨w.heap.size + 1, 1, none⟩ = some (.int .i64 ec) := X1.cell 1 rfl
  have b2 : w1.cell? ⟨w.heap.size + 1, 2, none⟩ = some (.slice ea en ez) := X1.cell 2 rfl
  go_enter Try.func25, Try.ntmps25
  go_wp2_with fail
  refine (HE w1).mono ?_
  rintro e w2 ⟨rfl, B2⟩
  replace X0 := X0.below B2
  replace X1 := X1.below B2
  replace hb := hb.below B2
  replace B2 := below_then B1 B2
  clear a0 a1 b0 b1 b2 hw0 hw1 s0 B0 B1 HE
  cases xe with
  | false =>
    have HF : Hid (res = false) := by show _ = _; rw [HB.out]; simp
    clear HB
    go_wp2
    go_ret
    exact ⟨by rw [HF.out]; rfl, B2⟩
  | true =>
    have a0 : w2.cell? ⟨w.heap.size, 0, none⟩ = some (.int .i64 V) := X0.cell 0 rfl
    have a1 : w2.cell? ⟨w.heap.size, 1, none⟩ = some (.int .i64 D) := X0.cell 1 rfl
    have b5 : w2.cell? ⟨w.heap.size + 1, 5, none⟩ = some (.int .i64 or) := X1.cell 5 rfl
    have b6 : w2.cell? ⟨w.heap.size + 1, 6, none⟩ = some (.int .i64 oc) := X1.cell 6 rfl
    have b7 : w2.cell? ⟨w.heap.size + 1, 7, none⟩ = some (.slice oa on oz) := X1.cell 7 rfl
    go_wp2_with fail
    refine (HO w2).mono ?_
    rintro e w3 ⟨rfl, B3⟩
    replace X0 := X0.below B3
    replace X1 := X1.below B3
    replace hb := hb.below B3
    replace B3 := below_then B2 B3
    clear a0 a1 b5 b6 b7 B2 HO
    cases xo with
    | false =>
      have HF : Hid (res = false) := by show _ = _; rw [HB.out]; simp
      clear HB
      go_wp2
      go_ret
      exact ⟨by rw [HF.out]; rfl, B3⟩
    | true =>
      have a1 : w3.cell? ⟨w.heap.size, 1, none⟩ = some (.int .i64 D) := X0.cell 1 rfl
      have a4 : w3.cell? ⟨w.heap.size, 4, none⟩ = some (.int .i64 L) := X0.cell 4 rfl
      have b3 : w3.cell? ⟨w.heap.size + 1, 3, none⟩ = some (.slice ba bn bz) := X1.cell 3 rfl
      have b4 : w3.cell? ⟨w.heap.size + 1, 4, none⟩ = some (.slice la ln lz) := X1.cell 4 rfl
      by_cases h1 : (ln : Int) = D
      · by_cases h2 : (bn : Int) = L
        · have HB2 : Hid (res = bs.all (bkB D H)) := by show _ = _; rw [HB.out, decide_eq_true h1, decide_eq_true h2]; simp
          clear HB
          subst h1 h2
          go_wp2_with fail
          clear a1 a4 b3 b4
          go_loopg [42] bn (fun r i wr => ∃ t : Nat, t ≤ bn ∧ r = bn - t ∧ i = .int .i64 t ∧ (bs.take t).all (bkB ln H) = true ∧ Below w3.heap.size w3 wr)
          case atStart => exact ⟨0, by omega, by omega, rfl, by simp, Below.refl _ _⟩
          case round =>
            obtain ⟨t, ht, rfl, rfl, hal, B4⟩ := hrel
            have Z0 := X0.below B4
            have hb4 := hb.below B4
            have BW := below_then B3 B4
            by_cases hlt : t < bn
            · have hlen := hb.len
              simp only at hlen
              obtain ⟨x, hx⟩ : ∃ x, bs[t]? = some x := ⟨_, List.getElem?_eq_getElem (by omega)⟩
              have hxo := hb.ok x (List.mem_of_getElem? hx)
              obtain ⟨g, o, e0, hc⟩ := hb4.cells (by show 0 < bn; omega)
              simp only at e0
              subst e0
              have r0 := hc t x hx
              have HT := all_take (p := bkB ln H) hx
              rw [hal, Bool.true_and] at HT
              have HC := HX x hxo
              have HR : Hid (bkB ln H x = false → res = false) := fun hf => by
                rw [HB2.out]
                rw [← Bool.not_eq_true]
                intro hall
                have := List.all_eq_true.1 hall x (List.mem_of_getElem? hx)
                rw [hf] at this
                cases this
              generalize bkB ln H x = xb at *
              have one := bk_one x
              have siz := bk_size x
              generalize x.cells = cs at *
              have XZ := blk_new wr 57 #[.slice none 0 0, .int .i64 0, .int .i64 0, .slice none 0 0, .int .i64 0, .int .i64 0, .slice none 0 0, .int .i64 0, .int .i64 0, .slice none 0 0, .int .i64 0, .int .i64 0, .slice none 0 0, .slice none 0 0, .int .i64 0, .int .i64 0, .slice none 0 0, .int .i64 0, .int .i64 0, .slice none 0 0]
              have BZ : Below wr.heap.size wr (wr.alloc (.cells #[.slice none 0 0, .int .i64 0, .int .i64 0, .slice none 0 0, .int .i64 0, .int .i64 0, .slice none 0 0, .int .i64 0, .int .i64 0, .slice none 0 0, .int .i64 0, .int .i64 0, .slice none 0 0, .slice none 0 0, .int .i64 0, .int .i64 0, .slice none 0 0, .int .i64 0, .int .i64 0, .slice none 0 0] 57)) := (Below.refl _ _).alloc (Nat.le_refl _) _
              generalize hwz : wr.alloc (.cells #[.slice none 0 0, .int .i64 0, .int .i64 0, .slice none 0 0, .int .i64 0, .int .i64 0, .slice none 0 0, .int .i64 0, .int .i64 0, .slice none 0 0, .int .i64 0, .int .i64 0, .slice none 0 0, .slice none 0 0, .int .i64 0, .int .i64 0, .slice none 0 0, .int .i64 0, .int .i64 0, .slice none 0 0] 57) = wz at *
              have XR := XZ.row cs
              have BR := below_setRow BZ (Nat.le_refl _) cs
              generalize hwy : wz.setRow wr.heap.size cs = wy at *
              replace Z0 := Z0.below BR
              have s4 := B4.size
              have BK := B4.trans (BR.mono s4)
              replace BW := below_then BW BR
              have a0 : wy.cell? ⟨w.heap.size, 0, none⟩ = some (.int .i64 V) := Z0.cell 0 rfl
              have a1 : wy.cell? ⟨w.heap.size, 1, none⟩ = some (.int .i64 (ln : Int)) := Z0.cell 1 rfl
              have a2 : wy.cell? ⟨w.heap.size, 2, none⟩ = some (.int .i64 Hd) := Z0.cell 2 rfl
              have a3 : wy.cell? ⟨w.heap.size, 3, none⟩ = some (.int .i64 H) := Z0.cell 3 rfl
              have a4 : wy.cell? ⟨w.heap.size, 4, none⟩ = some (.int .i64 (bn : Int)) := Z0.cell 4 rfl
              have HL : Hid (cs.toList.toArray = cs) := by show _ = _; simp
              unfold cfgC at HC
              clear hc hb4 X0 X1 hb HX
              go_wp2_with (first | (refine wpList_load_mid rfl 57 _ rfl g (o + t * 20) rfl cs.toList _ r0 Try.underlying57 rfl (by rw [Array.length_toList, siz]; exact Try.infoB) ?_; rw [HL.out]) | (refine wpList_store_row rfl 57 _ _ rfl wr.heap.size cs rfl rfl 57 _ XZ (by rw [siz]; exact Try.infoB) siz.symm one ?_; rw [hwy]) | (refine wpList_load_row rfl 57 _ rfl wr.heap.size rfl 57 cs (0, 0) _ XR Try.underlying57 rfl (by rw [siz]; exact Try.infoB) ?_))
              refine (HC wy).mono ?_
              rintro e wx ⟨rfl, BX⟩
              have sy := BR.size
              replace BW := below_then BW BX
              replace BK := BK.trans (BX.mono (by have := BK.size; omega))
              clear a0 a1 a2 a3 a4 hwz hwy XZ XR r0 HC
              cases xb with
              | false =>
                have HF := HR.out rfl
                have HF' : Hid (res = false) := HF
                clear HF HR HB2
                go_wp2
                go_ret
                exact ⟨by rw [HF'.out]; rfl, BW⟩
              | true =>
                go_wp2
                go_roundg (bn - (t + 1))
                case measure => omega
                case rel => exact ⟨t + 1, by omega, rfl, by go_num, HT, BK⟩
            · obtain rfl : t = bn := by omega
              have hlen := hb.len
              simp only at hlen
              rw [List.take_of_length_le (by omega)] at hal
              have HF : Hid (res = true) := by show _ = _; rw [HB2.out, hal]
              go_wp2
              go_ret
              exact ⟨by rw [HF.out]; rfl, BW⟩
        · have HF : Hid (res = false) := by show _ = _; rw [HB.out, decide_eq_false h2]; simp
          have h2' : ((bn : Int) == L) = false := by simpa using h2
          clear HB
          subst h1
          go_wp2
          go_ret
          exact ⟨by rw [HF.out]; rfl, B3⟩
      · have HF : Hid (res = false) := by show _ = _; rw [HB.out, decide_eq_false h1]; simp
        have h1' : ((ln : Int) == D) = false := by simpa using h1
        clear HB
        go_wp2
        go_ret
        exact ⟨by rw [HF.out]; rfl, B3⟩
/-- The error's number of numbers for a configuration. -/
def checkN (V D Hd H L : Int) (W : Wt) (bs : List Bk) : Int := if shapeN V D Hd H L ≠ 0 then shapeN V D Hd H L else if fitsB V D H L W bs = true then 0 else 4
set_option maxRecDepth 100000 in
set_option maxHeartbeats 1600000 in
theorem mcheck_any (C : Cfg) (hC : C.Ok) (W : Wt) (bs : List Bk) (w : World) (hW : W.Ok) (hb : BlocksAt w W.b bs) :
   Calls Try.prog 12 #[C.val, .agg W.cells] w fun e w' => e = .returned (.int .i64 (checkN C.V C.D C.Hd C.H C.L W bs)) ∧ Below w.heap.size w w' := by
  obtain ⟨V, D, Hd, H, L⟩ := C
  have SH := fun wv => shape_any V D Hd H L wv hC.V hC.D hC.Hd hC.H hC.L
  have FT := fun wv hbv => fits_any V D Hd H L W bs wv hW hbv hC.D hC.L
  have HN : Hid (checkN V D Hd H L W bs = if shapeN V D Hd H L ≠ 0 then shapeN V D Hd H L else if fitsB V D H L W bs = true then 0 else 4) := rfl
  show Calls Try.prog 12 #[.agg (cfgC V D Hd H L), .agg W.cells] w fun e w' => e = .returned (.int .i64 (checkN V D Hd H L W bs)) ∧ Below w.heap.size w w'
  generalize checkN V D Hd H L W bs = res at *
  generalize shapeN V D Hd H L = q at *
  generalize fitsB V D H L W bs = xf at *
  have siz : W.cells.size = 8 := rfl
  have one : W.cells.all (·.oneCell') = true := by simp [Wt.cells, Sl.v, Value.oneCell']
  generalize W.cells = ws at *
  unfold cfgC at *
  have X0 := blk_new w 23 #[.int .i64 V, .int .i64 D, .int .i64 Hd, .int .i64 H, .int .i64 L]
  have B0 : Below w.heap.size w (w.alloc (.cells #[.int .i64 V, .int .i64 D, .int .i64 Hd, .int .i64 H, .int .i64 L] 23)) := (Below.refl _ _).alloc (Nat.le_refl _) _
  have s0 : (w.alloc (.cells #[.int .i64 V, .int .i64 D, .int .i64 Hd, .int .i64 H, .int .i64 L] 23)).heap.size = w.heap.size + 1 := by simp
  generalize hw0 : w.alloc (.cells #[.int .i64 V, .int .i64 D, .int .i64 Hd, .int .i64 H, .int .i64 L] 23) = w0 at *
  have X1 := blk_new w0 29 ws
  have B1 : Below w0.heap.size w0 (w0.alloc (.cells ws 29)) := (Below.refl _ _).alloc (Nat.le_refl _) _
  rw [s0] at X1
  generalize hw1 : w0.alloc (.cells ws 29) = w1 at *
  replace X0 := X0.below B1
  replace B1 := below_then B0 B1
  replace hb := hb.below B1
  have a0 : w1.cell? ⟨w.heap.size, 0, none⟩ = some (.int .i64 V) := X0.cell 0 rfl
  have a1 : w1.cell? ⟨w.heap.size, 1, none⟩ = some (.int .i64 D) := X0.cell 1 rfl
  have a2 : w1.cell? ⟨w.heap.size, 2, none⟩ = some (.int .i64 Hd) := X0.cell 2 rfl
  have a3 : w1.cell? ⟨w.heap.size, 3, none⟩ = some (.int .i64 H) := X0.cell 3 rfl
  have a4 : w1.cell? ⟨w.heap.size, 4, none⟩ = some (.int .i64 L) := X0.cell 4 rfl
  go_enter Try.func12, Try.ntmps12
  go_wp2_with fail
  refine (SH w1).mono ?_
  rintro e w2 ⟨rfl, B2⟩
  replace X0 := X0.below B2
  replace X1 := X1.below B2
  replace hb := hb.below B2
  replace B2 := below_then B1 B2
  clear a0 a1 a2 a3 a4 hw0 hw1 s0 B0 B1 SH
  by_cases hq : q = 0
  · subst hq
    have HR : Hid (res = if xf = true then 0 else 4) := by show _ = _; rw [HN.out, if_neg (by simp)]
    clear HN
    have a0 : w2.cell? ⟨w.heap.size, 0, none⟩ = some (.int .i64 V) := X0.cell 0 rfl
    have a1 : w2.cell? ⟨w.heap.size, 1, none⟩ = some (.int .i64 D) := X0.cell 1 rfl
    have a2 : w2.cell? ⟨w.heap.size, 2, none⟩ = some (.int .i64 Hd) := X0.cell 2 rfl
    have a3 : w2.cell? ⟨w.heap.size, 3, none⟩ = some (.int .i64 H) := X0.cell 3 rfl
    have a4 : w2.cell? ⟨w.heap.size, 4, none⟩ = some (.int .i64 L) := X0.cell 4 rfl
    go_wp2_with (refine wpList_load_row rfl 29 _ rfl (w.heap.size + 1) rfl 29 ws (0, 0) _ X1 Try.underlying29 rfl (by rw [siz]; exact Try.infoW) ?_)
    refine (FT w2 hb).mono ?_
    rintro e w3 ⟨rfl, B3⟩
    cases xf with
    | false =>
      have HF : Hid (res = 4) := by show _ = _; rw [HR.out]; rfl
      clear HR
      go_wp2
      go_ret
      exact ⟨ret_int HF.out.symm, below_then B2 B3⟩
    | true =>
      have HF : Hid (res = 0) := by show _ = _; rw [HR.out]; rfl
      clear HR
      go_wp2
      go_ret
      exact ⟨ret_int HF.out.symm, below_then B2 B3⟩
  · have HF : Hid (res = q) := by show _ = _; rw [HN.out, if_pos hq]
    have hq' : (q == 0) = false := by simpa using hq
    clear HN
    go_wp2
    go_ret
    exact ⟨ret_int HF.out.symm, B2⟩
end Go.Proofs.Ytklgaokhillinaa
