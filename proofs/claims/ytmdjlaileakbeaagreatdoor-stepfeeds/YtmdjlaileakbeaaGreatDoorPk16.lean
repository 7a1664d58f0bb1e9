/- Contracts of the program's functions, part 16 of 19: what each call returns and leaves of memory. -/
import Derived.Test.YtmdjlaileakbeaaGreatDoorPk5
import Derived.Test.YtmdjlaileakbeaaGreatDoorPk15
import Derived.Test.YtmdjlaileakbeaaGreatDoorPk13
import Derived.Test.YtmdjlaileakbeaaGreatDoorPk6
import Derived.Deep.MidRow
/- The document's fits, Check and Prompt of layer 6, of any numbers. -/
namespace Go.Proofs.YtmdjlaileakbeaaGreatDoor
open Go.ChangeShapes Go.WideShapes Go.ChangeAt Go.RowKit Go.Deep
set_option maxHeartbeats 800000 in
theorem rfits6_any (m : Mt) (R K : Int) (w : World) (hm : m.Ok) :
   Calls Tryz.prog 41 #[.agg #[.int .i64 m.r, .int .i64 m.c, .slice m.d.ao m.d.n m.d.c], .int .i64 R, .int .i64 K] w fun e w' => e = .returned (.bool (sidesB m R K)) ∧ Below w.heap.size w w' := by
  obtain ⟨r, c, ⟨ao, n, ca⟩⟩ := m
  have hr := hm.r
  have hc := hm.c
  clear hm
  unfold I64 at hr hc
  have X0 := box_new w r c ao n ca
  have B0 : Below w.heap.size w (w.alloc (.cells #[.int .i64 r, .int .i64 c, .slice ao n ca] 26)) := (Below.refl _ _).alloc (Nat.le_refl _) _
  have C := fun wv => refCheck_any r c ao n ca wv
  simp only
  unfold matV at *
  generalize hw0 : w.alloc (.cells #[.int .i64 r, .int .i64 c, .slice ao n ca] 26) = w0 at *
  have c0 := X0.c0
  have c1 := X0.c1
  have c2 := X0.c2
  by_cases h2 : r = R
  · by_cases h3 : c = K
    · subst h2 h3
      have e1 : ((r : Int) == r) = true := by simp
      have e2 : ((c : Int) == c) = true := by simp
      go_enter Tryz.func41, Tryz.ntmps41
      go_wp2_with fail
      refine (C w0).mono ?_
      rintro e w1 ⟨rfl, B1⟩
      clear e1 e2 c0 c1 c2 C hw0
      by_cases h1 : chkN r c n = 0
      · have HS : Hid (sidesB ⟨r, c, ⟨ao, n, ca⟩⟩ r c = true) := by show _ = _; unfold sidesB; rw [decide_eq_true ⟨h1, rfl, rfl⟩]
        rw [h1]
        go_wp2
        go_ret
        exact ⟨by rw [HS.out]; rfl, below_then B0 B1⟩
      · have HS : Hid (sidesB ⟨r, c, ⟨ao, n, ca⟩⟩ r c = false) := by show _ = _; unfold sidesB; exact decide_eq_false fun h => h1 h.1
        have h1' : (chkN r c n == 0) = false := by simpa using h1
        generalize chkN r c n = q at *
        go_wp2
        go_ret
        exact ⟨by rw [HS.out]; rfl, below_then B0 B1⟩
    · have HS : Hid (sidesB ⟨r, c, ⟨ao, n, ca⟩⟩ R K = false) := by show _ = _; unfold sidesB; exact decide_eq_false fun h => h3 h.2.2
      have e1 : (r == R) = true := by simpa using h2
      have e2 : (c == K) = false := by simpa using h3
      clear h2 h3
      go_enter Tryz.func41, Tryz.ntmps41
      go_wp2_with fail
      go_ret
      exact ⟨by rw [HS.out]; rfl, B0⟩
  · have HS : Hid (sidesB ⟨r, c, ⟨ao, n, ca⟩⟩ R K = false) := by show _ = _; unfold sidesB; exact decide_eq_false fun h => h2 h.2.1
    have e1 : (r == R) = false := by simpa using h2
    clear h2
    go_enter Tryz.func41, Tryz.ntmps41
    go_wp2_with fail
    go_ret
    exact ⟨by rw [HS.out]; rfl, B0⟩
theorem var3f (w : World) (T : TypeId) (z row : Array Value) : Blk (w.alloc (.cells z T)) w.heap.size T z ∧ Blk ((w.alloc (.cells z T)).setRow w.heap.size row) w.heap.size T row ∧ Below w.heap.size w ((w.alloc (.cells z T)).setRow w.heap.size row) :=
  ⟨blk_new w T z, (blk_new w T z).row row, below_setRow ((Below.refl _ _).alloc (Nat.le_refl _) _) (Nat.le_refl _) _⟩
theorem bk_order (a b c d e f g h : Bool) : (((a && b && c && d) && e && f && g) && h) = (g && h && a && b && c && d && e && f) := by
  cases a <;> cases b <;> cases c <;> cases d <;> cases e <;> cases f <;> cases g <;> cases h <;> rfl
theorem mat4_range {w : World} {b : Nat} {vqr vqc vkr vkc vvr vvc vor voc : Int} {vqa vka vva voa : Option Addr} {vqn vqz vkn vkz vvn vvz von voz : Nat} (X : Blk w b 26 #[.int .i64 vqr, .int .i64 vqc, .slice vqa vqn vqz, .int .i64 vkr, .int .i64 vkc, .slice vka vkn vkz, .int .i64 vvr, .int .i64 vvc, .slice vva vvn vvz, .int .i64 vor, .int .i64 voc, .slice voa von voz]) {j : Nat} {m : Mt} (hm : ([⟨vqr, vqc, ⟨vqa, vqn, vqz⟩⟩, ⟨vkr, vkc, ⟨vka, vkn, vkz⟩⟩, ⟨vvr, vvc, ⟨vva, vvn, vvz⟩⟩, ⟨vor, voc, ⟨voa, von, voz⟩⟩] : List Mt)[j]? = some m) : w.rangeAt b (j * 3) [.int .i64 m.r, .int .i64 m.c, .slice m.d.ao m.d.n m.d.c] := by
  have hj : j < 4 := (List.getElem?_eq_some_iff.1 hm).1
  intro i v hv
  have hi : i < 3 := (List.getElem?_eq_some_iff.1 hv).1
  match j, hj, i, hi with
  | 0, _, 0, _ => simp at hm hv; subst hm hv; exact X.cell 0 rfl
  | 0, _, 1, _ => simp at hm hv; subst hm hv; exact X.cell 1 rfl
  | 0, _, 2, _ => simp at hm hv; subst hm hv; exact X.cell 2 rfl
  | 1, _, 0, _ => simp at hm hv; subst hm hv; exact X.cell 3 rfl
  | 1, _, 1, _ => simp at hm hv; subst hm hv; exact X.cell 4 rfl
  | 1, _, 2, _ => simp at hm hv; subst hm hv; exact X.cell 5 rfl
  | 2, _, 0, _ => simp at hm hv; subst hm hv; exact X.cell 6 rfl
  | 2, _, 1, _ => simp at hm hv; subst hm hv; exact X.cell 7 rfl
  | 2, _, 2, _ => simp at hm hv; subst hm hv; exact X.cell 8 rfl
  | 3, _, 0, _ => simp at hm hv; subst hm hv; exact X.cell 9 rfl
  | 3, _, 1, _ => simp at hm hv; subst hm hv; exact X.cell 10 rfl
  | 3, _, 2, _ => simp at hm hv; subst hm hv; exact X.cell 11 rfl
set_option maxRecDepth 100000 in
set_option maxHeartbeats 16000000 in
theorem rcheck6_any (V D Hd H L : Int) (W : Wt) (bs : List Bk) (w : World) (hW : W.Ok) (hb : BlocksAt w W.b bs) (b1 : I64 V) (b2 : I64 D) (b3 : I64 Hd) (b4 : I64 H) (b5 : I64 L) :
   Calls Tryz.prog 24 #[.agg (cfgC V D Hd H L), .agg W.cells] w fun e w' => e = .returned (.int .i64 (checkN V D Hd H L W bs)) ∧ Below w.heap.size w w' := by
  have SH := fun wv => rshape_any V D Hd H L wv b1 b2 b3 b4 b5
  clear b1 b2 b3 b4 b5
  have HN : Hid (checkN V D Hd H L W bs = if shapeN V D Hd H L ≠ 0 then shapeN V D Hd H L else if fitsB V D H L W bs = true then 0 else 4) := rfl
  have HF : Hid (fitsB V D H L W bs = (sidesB W.e V D && sidesB W.o V D && decide ((W.l.n : Int) = D) && decide ((W.b.n : Int) = L) && bs.all (bkB D H))) := rfl
  have hoe : W.e.Ok := hW.e
  have hoo : W.o.Ok := hW.o
  obtain ⟨⟨er, ec, ⟨ea, en, ez⟩⟩, ⟨ba, bn, bz⟩, ⟨la, ln, lz⟩, ⟨gr, gc, ⟨ga, gn, gz⟩⟩⟩ := W
  have HB : Hid (∀ wv, Below w.heap.size w wv → BlocksAt wv ⟨ba, bn, bz⟩ bs) := fun wv h => hb.below h
  have hln : ln ≤ 9223372036854775807 := hW.l
  have hbn : bn ≤ 9223372036854775807 := hb.max
  have HBL : Hid (bs.length = bn) := hb.len
  clear hb hW
  have CE := fun wv => rfits6_any ⟨er, ec, ⟨ea, en, ez⟩⟩ V D wv hoe
  have CO := fun wv => rfits6_any ⟨gr, gc, ⟨ga, gn, gz⟩⟩ V D wv hoo
  simp only at CE CO HF
  clear hoe hoo
  generalize checkN V D Hd H L _ bs = res at *
  generalize shapeN V D Hd H L = q at *
  generalize fitsB V D H L _ bs = xf at *
  generalize sidesB ⟨er, ec, ⟨ea, en, ez⟩⟩ V D = e1 at *
  generalize sidesB ⟨gr, gc, ⟨ga, gn, gz⟩⟩ V D = o1 at *
  show Calls Tryz.prog 24 #[.agg (cfgC V D Hd H L), .agg #[.int .i64 er, .int .i64 ec, .slice ea en ez, .slice ba bn bz, .slice la ln lz, .int .i64 gr, .int .i64 gc, .slice ga gn gz]] w _
  have X0 := blk_new w 23 (cfgC V D Hd H L)
  have B0 : Below w.heap.size w (w.alloc (.cells (cfgC V D Hd H L) 23)) := (Below.refl _ _).alloc (Nat.le_refl _) _
  have s0 : (w.alloc (.cells (cfgC V D Hd H L) 23)).heap.size = w.heap.size + 1 := by simp
  unfold cfgC at *
  generalize hw0 : w.alloc (.cells #[.int .i64 V, .int .i64 D, .int .i64 Hd, .int .i64 H, .int .i64 L] 23) = w0 at *
  have X1 := blk_new w0 38 #[.int .i64 er, .int .i64 ec, .slice ea en ez, .slice ba bn bz, .slice la ln lz, .int .i64 gr, .int .i64 gc, .slice ga gn gz]
  have B1 : Below w0.heap.size w0 (w0.alloc (.cells #[.int .i64 er, .int .i64 ec, .slice ea en ez, .slice ba bn bz, .slice la ln lz, .int .i64 gr, .int .i64 gc, .slice ga gn gz] 38)) := (Below.refl _ _).alloc (Nat.le_refl _) _
  generalize hw1 : w0.alloc (.cells #[.int .i64 er, .int .i64 ec, .slice ea en ez, .slice ba bn bz, .slice la ln lz, .int .i64 gr, .int .i64 gc, .slice ga gn gz] 38) = w1 at *
  replace X0 := X0.below B1
  have D1 := below_then B0 B1
  clear B0 B1 s0
  have a0 : w1.cell? ⟨w.heap.size, 0, none⟩ = some (.int .i64 V) := X0.cell 0 rfl
  have a1 : w1.cell? ⟨w.heap.size, 1, none⟩ = some (.int .i64 D) := X0.cell 1 rfl
  have a2 : w1.cell? ⟨w.heap.size, 2, none⟩ = some (.int .i64 Hd) := X0.cell 2 rfl
  have a3 : w1.cell? ⟨w.heap.size, 3, none⟩ = some (.int .i64 H) := X0.cell 3 rfl
  have a4 : w1.cell? ⟨w.heap.size, 4, none⟩ = some (.int .i64 L) := X0.cell 4 rfl
  go_enter Tryz.func24, Tryz.ntmps24
  go_wp2_with fail
  refine (SH w1).mono ?_
  rintro e w2 ⟨rfl, B2⟩
  have D2 := below_then D1 B2
  replace X0 := X0.below B2
  replace X1 := X1.below B2
  clear a0 a1 a2 a3 a4 hw0 hw1 SH D1 B2
  by_cases hq : q = 0
  rotate_left
  · have hq2 : (q == 0) = false := by simpa using hq
    have hq3 : (q != 0) = true := by simp [bne, hq2]
    have HR : Hid (res = q) := by show _ = _; rw [HN.out, if_pos hq]
    clear hq HN HF
    go_wp2_with fail
    go_ret
    exact ⟨by rw [HR.out]; rfl, D2⟩
  subst hq
  have HR : Hid (res = if xf = true then 0 else 4) := by show _ = _; rw [HN.out, if_neg (by simp)]
  clear HN
  have a0 : w2.cell? ⟨w.heap.size, 0, none⟩ = some (.int .i64 V) := X0.cell 0 rfl
  have a1 : w2.cell? ⟨w.heap.size, 1, none⟩ = some (.int .i64 D) := X0.cell 1 rfl
  have b0 : w2.cell? ⟨w0.heap.size, 0, none⟩ = some (.int .i64 er) := X1.cell 0 rfl
  have b1 : w2.cell? ⟨w0.heap.size, 1, none⟩ = some (.int .i64 ec) := X1.cell 1 rfl
  have b2 : w2.cell? ⟨w0.heap.size, 2, none⟩ = some (.slice ea en ez) := X1.cell 2 rfl
  go_wp2_with fail
  refine (CE w2).mono ?_
  rintro e w3 ⟨rfl, B3⟩
  have D3 := below_then D2 B3
  replace X0 := X0.below B3
  replace X1 := X1.below B3
  clear a0 a1 b0 b1 b2 CE D2 B3
  cases e1 with
  | false =>
    have HXF : Hid (xf = (false && bs.all (bkB D H))) := by show _ = _; rw [HF.out]; simp
    clear HF CO
    have b3 : w3.cell? ⟨w0.heap.size, 3, none⟩ = some (.slice ba bn bz) := X1.cell 3 rfl
    go_wp2_with fail
    clear b3
    go_loopg [6, 51] bn (fun r g6 i wr => ∃ k : Nat, k ≤ bn ∧ r = bn - k ∧ i = .int .i64 (k : Int) ∧ g6 = .bool (false && (bs.take k).all (bkB D H)) ∧ Blk wr w.heap.size 23 #[.int .i64 V, .int .i64 D, .int .i64 Hd, .int .i64 H, .int .i64 L] ∧ Blk wr (w0.heap.size) 38 #[.int .i64 er, .int .i64 ec, .slice ea en ez, .slice ba bn bz, .slice la ln lz, .int .i64 gr, .int .i64 gc, .slice ga gn gz] ∧ Below w.heap.size w wr)
    case atStart => exact ⟨0, by omega, by omega, rfl, by simp, X0, X1, D3⟩
    case round =>
      clear X0 X1 D3
      obtain ⟨k, hk, rfl, rfl, rfl, X0, X1, DR⟩ := hrel
      rename World => wo
      by_cases hlt : k < bn
      · obtain ⟨xx, hxx⟩ : ∃ x, bs[k]? = some x := ⟨_, List.getElem?_eq_getElem (show k < bs.length by have := HBL.out; omega)⟩
        obtain ⟨gb, ob, eba, hcb⟩ := (HB.out wo DR).cells (by show 0 < bn; omega)
        have eba' : ba = some ⟨gb, ob, none⟩ := eba
        subst eba'
        have r0 := hcb k xx hxx
        have hok := (HB.out wo DR).ok xx (List.mem_of_getElem? hxx)
        have HSN : Hid ((bs.take (k + 1)).all (bkB D H) = ((bs.take k).all (bkB D H) && bkB D H xx)) := all_take hxx
        generalize (bs.take k).all (bkB D H) = p0 at *
        obtain ⟨g, hg⟩ : ∃ g, (false && p0) = g := ⟨_, rfl⟩
        have HG : Hid ((false && p0) = g) := hg
        rw [hg]
        clear hg
        obtain ⟨⟨vfa, vfn, vfz⟩, ⟨vqr, vqc, ⟨vqa, vqn, vqz⟩⟩, ⟨vkr, vkc, ⟨vka, vkn, vkz⟩⟩, ⟨vvr, vvc, ⟨vva, vvn, vvz⟩⟩, ⟨vor, voc, ⟨voa, von, voz⟩⟩, ⟨vsa, vsn, vsz⟩, ⟨vur, vuc, ⟨vua, vun, vuz⟩⟩, ⟨vdr, vdc, ⟨vda, vdn, vdz⟩⟩⟩ := xx
        rw [show Bk.cells ⟨⟨vfa, vfn, vfz⟩, ⟨vqr, vqc, ⟨vqa, vqn, vqz⟩⟩, ⟨vkr, vkc, ⟨vka, vkn, vkz⟩⟩, ⟨vvr, vvc, ⟨vva, vvn, vvz⟩⟩, ⟨vor, voc, ⟨voa, von, voz⟩⟩, ⟨vsa, vsn, vsz⟩, ⟨vur, vuc, ⟨vua, vun, vuz⟩⟩, ⟨vdr, vdc, ⟨vda, vdn, vdz⟩⟩⟩ = #[.slice vfa vfn vfz, .int .i64 vqr, .int .i64 vqc, .slice vqa vqn vqz, .int .i64 vkr, .int .i64 vkc, .slice vka vkn vkz, .int .i64 vvr, .int .i64 vvc, .slice vva vvn vvz, .int .i64 vor, .int .i64 voc, .slice voa von voz, .slice vsa vsn vsz, .int .i64 vur, .int .i64 vuc, .slice vua vun vuz, .int .i64 vdr, .int .i64 vdc, .slice vda vdn vdz] from rfl] at r0
        have HSN2 : Hid ((false && (bs.take (k + 1)).all (bkB D H)) = (g && bkB D H ⟨⟨vfa, vfn, vfz⟩, ⟨vqr, vqc, ⟨vqa, vqn, vqz⟩⟩, ⟨vkr, vkc, ⟨vka, vkn, vkz⟩⟩, ⟨vvr, vvc, ⟨vva, vvn, vvz⟩⟩, ⟨vor, voc, ⟨voa, von, voz⟩⟩, ⟨vsa, vsn, vsz⟩, ⟨vur, vuc, ⟨vua, vun, vuz⟩⟩, ⟨vdr, vdc, ⟨vda, vdn, vdz⟩⟩⟩)) := by show _ = _; rw [HSN.out, ← Bool.and_assoc, HG.out]
        clear HSN HG
        have HSN := HSN2
        clear HSN2
        have HBK : Hid (bkB D H ⟨⟨vfa, vfn, vfz⟩, ⟨vqr, vqc, ⟨vqa, vqn, vqz⟩⟩, ⟨vkr, vkc, ⟨vka, vkn, vkz⟩⟩, ⟨vvr, vvc, ⟨vva, vvn, vvz⟩⟩, ⟨vor, voc, ⟨voa, von, voz⟩⟩, ⟨vsa, vsn, vsz⟩, ⟨vur, vuc, ⟨vua, vun, vuz⟩⟩, ⟨vdr, vdc, ⟨vda, vdn, vdz⟩⟩⟩ = ((sidesB ⟨vqr, vqc, ⟨vqa, vqn, vqz⟩⟩ D D && sidesB ⟨vkr, vkc, ⟨vka, vkn, vkz⟩⟩ D D && sidesB ⟨vvr, vvc, ⟨vva, vvn, vvz⟩⟩ D D && sidesB ⟨vor, voc, ⟨voa, von, voz⟩⟩ D D) && sidesB ⟨vur, vuc, ⟨vua, vun, vuz⟩⟩ H D && sidesB ⟨vdr, vdc, ⟨vda, vdn, vdz⟩⟩ D H && decide ((vfn : Int) = D) && decide ((vsn : Int) = D))) := by show _ = _; rw [bk_order]; rfl
        have CU := fun wv => rfits6_any ⟨vur, vuc, ⟨vua, vun, vuz⟩⟩ H D wv hok.u
        have CD := fun wv => rfits6_any ⟨vdr, vdc, ⟨vda, vdn, vdz⟩⟩ D H wv hok.d
        have HM : Hid (∀ (j : Nat) (m : Mt), ([⟨vqr, vqc, ⟨vqa, vqn, vqz⟩⟩, ⟨vkr, vkc, ⟨vka, vkn, vkz⟩⟩, ⟨vvr, vvc, ⟨vva, vvn, vvz⟩⟩, ⟨vor, voc, ⟨voa, von, voz⟩⟩] : List Mt)[j]? = some m → m.Ok) := fun j m hm => by
          have := List.mem_of_getElem? hm
          simp only [List.mem_cons, List.not_mem_nil, or_false] at this
          rcases this with rfl | rfl | rfl | rfl
          · exact hok.q
          · exact hok.k
          · exact hok.v
          · exact hok.o
        have hfn : vfn ≤ 9223372036854775807 := hok.f
        have hsn : vsn ≤ 9223372036854775807 := hok.s
        have HM4 : Hid (([⟨vqr, vqc, ⟨vqa, vqn, vqz⟩⟩, ⟨vkr, vkc, ⟨vka, vkn, vkz⟩⟩, ⟨vvr, vvc, ⟨vva, vvn, vvz⟩⟩, ⟨vor, voc, ⟨voa, von, voz⟩⟩] : List Mt).all (fun m => sidesB m D D) = (sidesB ⟨vqr, vqc, ⟨vqa, vqn, vqz⟩⟩ D D && sidesB ⟨vkr, vkc, ⟨vka, vkn, vkz⟩⟩ D D && sidesB ⟨vvr, vvc, ⟨vva, vvn, vvz⟩⟩ D D && sidesB ⟨vor, voc, ⟨voa, von, voz⟩⟩ D D)) := by show _ = _; simp [Bool.and_assoc]
        simp only at CU CD
        clear hok hcb hxx eba
        generalize sidesB ⟨vur, vuc, ⟨vua, vun, vuz⟩⟩ H D = u1 at *
        generalize sidesB ⟨vdr, vdc, ⟨vda, vdn, vdz⟩⟩ D H = d1 at *
        generalize (sidesB ⟨vqr, vqc, ⟨vqa, vqn, vqz⟩⟩ D D && sidesB ⟨vkr, vkc, ⟨vka, vkn, vkz⟩⟩ D D && sidesB ⟨vvr, vvc, ⟨vva, vvn, vvz⟩⟩ D D && sidesB ⟨vor, voc, ⟨voa, von, voz⟩⟩ D D) = m4 at *
        have szr := DR.size
        have z1 := X1.lt
        obtain ⟨XE, XB, BF⟩ := var3f wo 61 #[.slice none 0 0, .int .i64 0, .int .i64 0, .slice none 0 0, .int .i64 0, .int .i64 0, .slice none 0 0, .int .i64 0, .int .i64 0, .slice none 0 0, .int .i64 0, .int .i64 0, .slice none 0 0, .slice none 0 0, .int .i64 0, .int .i64 0, .slice none 0 0, .int .i64 0, .int .i64 0, .slice none 0 0] #[.slice vfa vfn vfz, .int .i64 vqr, .int .i64 vqc, .slice vqa vqn vqz, .int .i64 vkr, .int .i64 vkc, .slice vka vkn vkz, .int .i64 vvr, .int .i64 vvc, .slice vva vvn vvz, .int .i64 vor, .int .i64 voc, .slice voa von voz, .slice vsa vsn vsz, .int .i64 vur, .int .i64 vuc, .slice vua vun vuz, .int .i64 vdr, .int .i64 vdc, .slice vda vdn vdz]
        have hone : Array.all (#[.slice vfa vfn vfz, .int .i64 vqr, .int .i64 vqc, .slice vqa vqn vqz, .int .i64 vkr, .int .i64 vkc, .slice vka vkn vkz, .int .i64 vvr, .int .i64 vvc, .slice vva vvn vvz, .int .i64 vor, .int .i64 voc, .slice voa von voz, .slice vsa vsn vsz, .int .i64 vur, .int .i64 vuc, .slice vua vun vuz, .int .i64 vdr, .int .i64 vdc, .slice vda vdn vdz] : Array Value) (fun v => v.oneCell') = true := by simp [Value.oneCell']
        generalize hwe : wo.alloc (.cells #[.slice none 0 0, .int .i64 0, .int .i64 0, .slice none 0 0, .int .i64 0, .int .i64 0, .slice none 0 0, .int .i64 0, .int .i64 0, .slice none 0 0, .int .i64 0, .int .i64 0, .slice none 0 0, .slice none 0 0, .int .i64 0, .int .i64 0, .slice none 0 0, .int .i64 0, .int .i64 0, .slice none 0 0] 61) = we at *
        generalize hwf : we.setRow wo.heap.size #[.slice vfa vfn vfz, .int .i64 vqr, .int .i64 vqc, .slice vqa vqn vqz, .int .i64 vkr, .int .i64 vkc, .slice vka vkn vkz, .int .i64 vvr, .int .i64 vvc, .slice vva vvn vvz, .int .i64 vor, .int .i64 voc, .slice voa von voz, .slice vsa vsn vsz, .int .i64 vur, .int .i64 vuc, .slice vua vun vuz, .int .i64 vdr, .int .i64 vdc, .slice vda vdn vdz] = wf at *
        have DF := below_then DR BF
        replace X0 := X0.below BF
        replace X1 := X1.below BF
        clear BF
        have x1 : wf.cell? ⟨wo.heap.size, 1, none⟩ = some (.int .i64 vqr) := XB.cell 1 rfl
        have x2 : wf.cell? ⟨wo.heap.size, 2, none⟩ = some (.int .i64 vqc) := XB.cell 2 rfl
        have x3 : wf.cell? ⟨wo.heap.size, 3, none⟩ = some (.slice vqa vqn vqz) := XB.cell 3 rfl
        have x4 : wf.cell? ⟨wo.heap.size, 4, none⟩ = some (.int .i64 vkr) := XB.cell 4 rfl
        have x5 : wf.cell? ⟨wo.heap.size, 5, none⟩ = some (.int .i64 vkc) := XB.cell 5 rfl
        have x6 : wf.cell? ⟨wo.heap.size, 6, none⟩ = some (.slice vka vkn vkz) := XB.cell 6 rfl
        have x7 : wf.cell? ⟨wo.heap.size, 7, none⟩ = some (.int .i64 vvr) := XB.cell 7 rfl
        have x8 : wf.cell? ⟨wo.heap.size, 8, none⟩ = some (.int .i64 vvc) := XB.cell 8 rfl
        have x9 : wf.cell? ⟨wo.heap.size, 9, none⟩ = some (.slice vva vvn vvz) := XB.cell 9 rfl
        have x10 : wf.cell? ⟨wo.heap.size, 10, none⟩ = some (.int .i64 vor) := XB.cell 10 rfl
        have x11 : wf.cell? ⟨wo.heap.size, 11, none⟩ = some (.int .i64 voc) := XB.cell 11 rfl
        have x12 : wf.cell? ⟨wo.heap.size, 12, none⟩ = some (.slice voa von voz) := XB.cell 12 rfl
        have BM : Below wf.heap.size wf (wf.alloc (.cells #[.int .i64 vqr, .int .i64 vqc, .slice vqa vqn vqz, .int .i64 vkr, .int .i64 vkc, .slice vka vkn vkz, .int .i64 vvr, .int .i64 vvc, .slice vva vvn vvz, .int .i64 vor, .int .i64 voc, .slice voa von voz] 26)) := (Below.refl _ _).alloc (Nat.le_refl _) _
        have XM := blk_new wf 26 #[.int .i64 vqr, .int .i64 vqc, .slice vqa vqn vqz, .int .i64 vkr, .int .i64 vkc, .slice vka vkn vkz, .int .i64 vvr, .int .i64 vvc, .slice vva vvn vvz, .int .i64 vor, .int .i64 voc, .slice voa von voz]
        go_upto_region 9 with (first | (refine wpList_load_mid rfl 61 _ rfl gb (ob + k * 20) rfl (#[.slice vfa vfn vfz, .int .i64 vqr, .int .i64 vqc, .slice vqa vqn vqz, .int .i64 vkr, .int .i64 vkc, .slice vka vkn vkz, .int .i64 vvr, .int .i64 vvc, .slice vva vvn vvz, .int .i64 vor, .int .i64 voc, .slice voa von voz, .slice vsa vsn vsz, .int .i64 vur, .int .i64 vuc, .slice vua vun vuz, .int .i64 vdr, .int .i64 vdc, .slice vda vdn vdz] : Array Value).toList _ r0 Tryz.underlying61 rfl (by exact Tryz.infoRB1) ?_) | (refine wpList_store_row rfl 61 _ _ rfl wo.heap.size #[.slice vfa vfn vfz, .int .i64 vqr, .int .i64 vqc, .slice vqa vqn vqz, .int .i64 vkr, .int .i64 vkc, .slice vka vkn vkz, .int .i64 vvr, .int .i64 vvc, .slice vva vvn vvz, .int .i64 vor, .int .i64 voc, .slice voa von voz, .slice vsa vsn vsz, .int .i64 vur, .int .i64 vuc, .slice vua vun vuz, .int .i64 vdr, .int .i64 vdc, .slice vda vdn vdz] rfl rfl 61 _ XE (by exact Tryz.infoRB1) rfl hone ?_; rw [hwf]))
        clear hwe hwf XE r0 hone x1 x2 x3 x4 x5 x6 x7 x8 x9 x10 x11 x12
        generalize hwm : wf.alloc (.cells #[.int .i64 vqr, .int .i64 vqc, .slice vqa vqn vqz, .int .i64 vkr, .int .i64 vkc, .slice vka vkn vkz, .int .i64 vvr, .int .i64 vvc, .slice vva vvn vvz, .int .i64 vor, .int .i64 voc, .slice voa von voz] 26) = wm at *
        replace X0 := X0.below BM
        replace X1 := X1.below BM
        replace XB := XB.below BM
        have DM := below_then DF BM
        clear BM hwm
        go_loopg [6, 65] 4 (fun r g6 i wv => ∃ j : Nat, j ≤ 4 ∧ r = 4 - j ∧ i = .int .i64 (j : Int) ∧ g6 = .bool (g && (([⟨vqr, vqc, ⟨vqa, vqn, vqz⟩⟩, ⟨vkr, vkc, ⟨vka, vkn, vkz⟩⟩, ⟨vvr, vvc, ⟨vva, vvn, vvz⟩⟩, ⟨vor, voc, ⟨voa, von, voz⟩⟩] : List Mt).take j).all fun m => sidesB m D D) ∧ Blk wv w.heap.size 23 #[.int .i64 V, .int .i64 D, .int .i64 Hd, .int .i64 H, .int .i64 L] ∧ Blk wv (w0.heap.size) 38 #[.int .i64 er, .int .i64 ec, .slice ea en ez, .slice (some ⟨gb, ob, none⟩) bn bz, .slice la ln lz, .int .i64 gr, .int .i64 gc, .slice ga gn gz] ∧ Blk wv wo.heap.size 61 #[.slice vfa vfn vfz, .int .i64 vqr, .int .i64 vqc, .slice vqa vqn vqz, .int .i64 vkr, .int .i64 vkc, .slice vka vkn vkz, .int .i64 vvr, .int .i64 vvc, .slice vva vvn vvz, .int .i64 vor, .int .i64 voc, .slice voa von voz, .slice vsa vsn vsz, .int .i64 vur, .int .i64 vuc, .slice vua vun vuz, .int .i64 vdr, .int .i64 vdc, .slice vda vdn vdz] ∧ Blk wv wf.heap.size 26 #[.int .i64 vqr, .int .i64 vqc, .slice vqa vqn vqz, .int .i64 vkr, .int .i64 vkc, .slice vka vkn vkz, .int .i64 vvr, .int .i64 vvc, .slice vva vvn vvz, .int .i64 vor, .int .i64 voc, .slice voa von voz] ∧ Below w.heap.size w wv)
        case atStart => exact ⟨0, by omega, by omega, rfl, by simp, X0, X1, XB, XM, DM⟩
        case round =>
          clear X0 X1 XB XM DM
          obtain ⟨j, hj, rfl, rfl, rfl, X0, X1, XB, XM, DV⟩ := hrel
          by_cases hj4 : j < 4
          · obtain ⟨m, hm⟩ : ∃ m, ([⟨vqr, vqc, ⟨vqa, vqn, vqz⟩⟩, ⟨vkr, vkc, ⟨vka, vkn, vkz⟩⟩, ⟨vvr, vvc, ⟨vva, vvn, vvz⟩⟩, ⟨vor, voc, ⟨voa, von, voz⟩⟩] : List Mt)[j]? = some m := ⟨_, List.getElem?_eq_getElem (show j < ([⟨vqr, vqc, ⟨vqa, vqn, vqz⟩⟩, ⟨vkr, vkc, ⟨vka, vkn, vkz⟩⟩, ⟨vvr, vvc, ⟨vva, vvn, vvz⟩⟩, ⟨vor, voc, ⟨voa, von, voz⟩⟩] : List Mt).length from hj4)⟩
            have hmo := HM.out j m hm
            have rj : wr.rangeAt wf.heap.size (j * 3) [.int .i64 m.r, .int .i64 m.c, .slice m.d.ao m.d.n m.d.c] := mat4_range XM hm
            have HT : Hid (((([⟨vqr, vqc, ⟨vqa, vqn, vqz⟩⟩, ⟨vkr, vkc, ⟨vka, vkn, vkz⟩⟩, ⟨vvr, vvc, ⟨vva, vvn, vvz⟩⟩, ⟨vor, voc, ⟨voa, von, voz⟩⟩] : List Mt).take (j + 1)).all fun m => sidesB m D D) = (((([⟨vqr, vqc, ⟨vqa, vqn, vqz⟩⟩, ⟨vkr, vkc, ⟨vka, vkn, vkz⟩⟩, ⟨vvr, vvc, ⟨vva, vvn, vvz⟩⟩, ⟨vor, voc, ⟨voa, von, voz⟩⟩] : List Mt).take j).all fun m => sidesB m D D) && sidesB m D D)) := by
              show _ = _
              rw [List.take_add_one, hm, List.all_append]; simp
            generalize ((([⟨vqr, vqc, ⟨vqa, vqn, vqz⟩⟩, ⟨vkr, vkc, ⟨vka, vkn, vkz⟩⟩, ⟨vvr, vvc, ⟨vva, vvn, vvz⟩⟩, ⟨vor, voc, ⟨voa, von, voz⟩⟩] : List Mt).take j).all fun m => sidesB m D D) = pj at *
            obtain ⟨gj, hgj⟩ : ∃ gj, (g && pj) = gj := ⟨_, rfl⟩
            have HGJ : Hid ((g && pj) = gj) := hgj
            rw [hgj]
            clear hgj hm
            obtain ⟨mr, mc, ⟨ma, mn, mz⟩⟩ := m
            have CM := fun wx => rfits6_any ⟨mr, mc, ⟨ma, mn, mz⟩⟩ D D wx hmo
            simp only at CM rj
            generalize sidesB ⟨mr, mc, ⟨ma, mn, mz⟩⟩ D D = sm at *
            obtain ⟨XE2, XK, BK⟩ := var3f wr 26 #[.int .i64 0, .int .i64 0, .slice none 0 0] #[.int .i64 mr, .int .i64 mc, .slice ma mn mz]
            generalize hwe2 : wr.alloc (.cells #[.int .i64 0, .int .i64 0, .slice none 0 0] 26) = we2 at *
            generalize hwf2 : we2.setRow wr.heap.size #[.int .i64 mr, .int .i64 mc, .slice ma mn mz] = wk at *
            replace X0 := X0.below BK
            replace X1 := X1.below BK
            replace XB := XB.below BK
            replace XM := XM.below BK
            have DK := below_then DV BK
            clear BK
            have a1 : wk.cell? ⟨w.heap.size, 1, none⟩ = some (.int .i64 D) := X0.cell 1 rfl
            have m0 : wk.cell? ⟨wr.heap.size, 0, none⟩ = some (.int .i64 mr) := XK.cell 0 rfl
            have m1 : wk.cell? ⟨wr.heap.size, 1, none⟩ = some (.int .i64 mc) := XK.cell 1 rfl
            have m2 : wk.cell? ⟨wr.heap.size, 2, none⟩ = some (.slice ma mn mz) := XK.cell 2 rfl
            go_upto_region 11 with (first | (refine wpList_load_mid rfl 26 _ rfl wf.heap.size (j * 3) rfl [.int .i64 mr, .int .i64 mc, .slice ma mn mz] _ rj Tryz.underlying26 rfl (by kernel_rfl) ?_) | (refine wpList_store_row rfl 26 _ _ rfl wr.heap.size #[.int .i64 mr, .int .i64 mc, .slice ma mn mz] rfl rfl 26 _ XE2 (by kernel_rfl) rfl (by simp [Value.oneCell']) ?_; rw [hwf2]))
            clear hwe2 hwf2 XE2 rj
            cases gj with
            | false =>
              clear CM
              go_wp2_with fail
              clear a1 m0 m1 m2
              go_roundg (4 - (j + 1))
              case measure => omega
              case rel => exact ⟨j + 1, by omega, rfl, by go_num, by rw [HT.out, ← Bool.and_assoc, HGJ.out]; rfl, X0, X1, XB, XM, DK⟩
            | true =>
              go_wp2_with fail
              refine (CM wk).mono ?_
              rintro e wy ⟨rfl, BY⟩
              replace X0 := X0.below BY
              replace X1 := X1.below BY
              replace XB := XB.below BY
              replace XM := XM.below BY
              have DY := below_then DK BY
              clear a1 m0 m1 m2 CM BY DK
              go_wp2_with fail
              go_roundg (4 - (j + 1))
              case measure => omega
              case rel => exact ⟨j + 1, by omega, rfl, by go_num, by rw [HT.out, ← Bool.and_assoc, HGJ.out]; rfl, X0, X1, XB, XM, DY⟩
          · obtain rfl : j = 4 := by omega
            have HQ4 : Hid ((g && (([⟨vqr, vqc, ⟨vqa, vqn, vqz⟩⟩, ⟨vkr, vkc, ⟨vka, vkn, vkz⟩⟩, ⟨vvr, vvc, ⟨vva, vvn, vvz⟩⟩, ⟨vor, voc, ⟨voa, von, voz⟩⟩] : List Mt).take 4).all fun m => sidesB m D D) = (g && m4)) := by show _ = _; rw [List.take_of_length_le (by simp), HM4.out]
            generalize (g && (([⟨vqr, vqc, ⟨vqa, vqn, vqz⟩⟩, ⟨vkr, vkc, ⟨vka, vkn, vkz⟩⟩, ⟨vvr, vvc, ⟨vva, vvn, vvz⟩⟩, ⟨vor, voc, ⟨voa, von, voz⟩⟩] : List Mt).take 4).all fun m => sidesB m D D) = q4 at *
            have HE : Hid ((g && bkB D H ⟨⟨vfa, vfn, vfz⟩, ⟨vqr, vqc, ⟨vqa, vqn, vqz⟩⟩, ⟨vkr, vkc, ⟨vka, vkn, vkz⟩⟩, ⟨vvr, vvc, ⟨vva, vvn, vvz⟩⟩, ⟨vor, voc, ⟨voa, von, voz⟩⟩, ⟨vsa, vsn, vsz⟩, ⟨vur, vuc, ⟨vua, vun, vuz⟩⟩, ⟨vdr, vdc, ⟨vda, vdn, vdz⟩⟩⟩) = (q4 && u1 && d1 && decide ((vfn : Int) = D) && decide ((vsn : Int) = D))) := by show _ = _; rw [HBK.out, HQ4.out]; simp only [Bool.and_assoc]
            clear HBK HQ4 HM HM4 XM
            have a1 : wr.cell? ⟨w.heap.size, 1, none⟩ = some (.int .i64 D) := X0.cell 1 rfl
            have a3 : wr.cell? ⟨w.heap.size, 3, none⟩ = some (.int .i64 H) := X0.cell 3 rfl
            have x14 : wr.cell? ⟨wo.heap.size, 14, none⟩ = some (.int .i64 vur) := XB.cell 14 rfl
            have x15 : wr.cell? ⟨wo.heap.size, 15, none⟩ = some (.int .i64 vuc) := XB.cell 15 rfl
            have x16 : wr.cell? ⟨wo.heap.size, 16, none⟩ = some (.slice vua vun vuz) := XB.cell 16 rfl
            cases q4 with
            | false =>
              clear CU CD
              go_wp2_with fail
              clear a1 a3 x14 x15 x16
              go_roundg (bn - (k + 1))
              case measure => omega
              case rel => exact ⟨k + 1, by omega, rfl, by go_num, by rw [HSN.out, HE.out]; rfl, X0, X1, DV⟩
            | true =>
              go_wp2_with fail
              refine (CU wr).mono ?_
              rintro e wy ⟨rfl, BY⟩
              replace X0 := X0.below BY
              replace X1 := X1.below BY
              replace XB := XB.below BY
              have DY := below_then DV BY
              clear a1 a3 x14 x15 x16 CU BY DV
              have a1 : wy.cell? ⟨w.heap.size, 1, none⟩ = some (.int .i64 D) := X0.cell 1 rfl
              have a3 : wy.cell? ⟨w.heap.size, 3, none⟩ = some (.int .i64 H) := X0.cell 3 rfl
              have x17 : wy.cell? ⟨wo.heap.size, 17, none⟩ = some (.int .i64 vdr) := XB.cell 17 rfl
              have x18 : wy.cell? ⟨wo.heap.size, 18, none⟩ = some (.int .i64 vdc) := XB.cell 18 rfl
              have x19 : wy.cell? ⟨wo.heap.size, 19, none⟩ = some (.slice vda vdn vdz) := XB.cell 19 rfl
              cases u1 with
              | false =>
                clear CD
                go_wp2_with fail
                clear a1 a3 x17 x18 x19
                go_roundg (bn - (k + 1))
                case measure => omega
                case rel => exact ⟨k + 1, by omega, rfl, by go_num, by rw [HSN.out, HE.out]; rfl, X0, X1, DY⟩
              | true =>
                go_wp2_with fail
                refine (CD wy).mono ?_
                rintro e wz ⟨rfl, BY⟩
                replace X0 := X0.below BY
                replace X1 := X1.below BY
                replace XB := XB.below BY
                have DZ := below_then DY BY
                clear a1 a3 x17 x18 x19 CD BY DY
                have a1 : wz.cell? ⟨w.heap.size, 1, none⟩ = some (.int .i64 D) := X0.cell 1 rfl
                have x0 : wz.cell? ⟨wo.heap.size, 0, none⟩ = some (.slice vfa vfn vfz) := XB.cell 0 rfl
                have x13 : wz.cell? ⟨wo.heap.size, 13, none⟩ = some (.slice vsa vsn vsz) := XB.cell 13 rfl
                cases d1 with
                | false =>
                  go_wp2_with fail
                  clear a1 x0 x13
                  go_roundg (bn - (k + 1))
                  case measure => omega
                  case rel => exact ⟨k + 1, by omega, rfl, by go_num, by rw [HSN.out, HE.out]; rfl, X0, X1, DZ⟩
                | true =>
                  by_cases h1 : (vfn : Int) = D
                  · have h2 : ((vfn : Int) == D) = true := by simpa using h1
                    have HE2 : Hid ((true && true && true && decide ((vfn : Int) = D) && decide ((vsn : Int) = D)) = ((vsn : Int) == D)) := by show _ = _; rw [show decide ((vfn : Int) = D) = true from decide_eq_true h1]; simp; rfl
                    clear h1
                    go_wp2_with fail
                    clear a1 x0 x13 h2
                    go_roundg (bn - (k + 1))
                    case measure => omega
                    case rel => exact ⟨k + 1, by omega, rfl, by go_num, by rw [HSN.out, HE.out, HE2.out], X0, X1, DZ⟩
                  · have h2 : ((vfn : Int) == D) = false := by simpa using h1
                    have HE2 : Hid ((true && true && true && decide ((vfn : Int) = D) && decide ((vsn : Int) = D)) = false) := by show _ = _; rw [show decide ((vfn : Int) = D) = false from decide_eq_false h1]; rfl
                    clear h1
                    go_wp2_with fail
                    clear a1 x0 x13 h2
                    go_roundg (bn - (k + 1))
                    case measure => omega
                    case rel => exact ⟨k + 1, by omega, rfl, by go_num, by rw [HSN.out, HE.out, HE2.out], X0, X1, DZ⟩
      · obtain rfl : k = bn := by omega
        have HZ : Hid (xf = (false && (bs.take k).all (bkB D H))) := by show _ = _; rw [HXF.out, List.take_of_length_le (by have := HBL.out; omega)]
        generalize (false && (bs.take k).all (bkB D H)) = z at *
        cases z with
        | false =>
          go_wp2_with fail
          go_ret
          exact ⟨by rw [HR.out, HZ.out]; rfl, DR⟩
        | true =>
          go_wp2_with fail
          go_ret
          exact ⟨by rw [HR.out, HZ.out]; rfl, DR⟩
  | true =>
    have a0 : w3.cell? ⟨w.heap.size, 0, none⟩ = some (.int .i64 V) := X0.cell 0 rfl
    have a1 : w3.cell? ⟨w.heap.size, 1, none⟩ = some (.int .i64 D) := X0.cell 1 rfl
    have b5 : w3.cell? ⟨w0.heap.size, 5, none⟩ = some (.int .i64 gr) := X1.cell 5 rfl
    have b6 : w3.cell? ⟨w0.heap.size, 6, none⟩ = some (.int .i64 gc) := X1.cell 6 rfl
    have b7 : w3.cell? ⟨w0.heap.size, 7, none⟩ = some (.slice ga gn gz) := X1.cell 7 rfl
    go_wp2_with fail
    refine (CO w3).mono ?_
    rintro e w4 ⟨rfl, B4⟩
    have D4 := below_then D3 B4
    replace X0 := X0.below B4
    replace X1 := X1.below B4
    clear a0 a1 b5 b6 b7 CO D3 B4
    have a1 : w4.cell? ⟨w.heap.size, 1, none⟩ = some (.int .i64 D) := X0.cell 1 rfl
    have a4 : w4.cell? ⟨w.heap.size, 4, none⟩ = some (.int .i64 L) := X0.cell 4 rfl
    have b3 : w4.cell? ⟨w0.heap.size, 3, none⟩ = some (.slice ba bn bz) := X1.cell 3 rfl
    have b4 : w4.cell? ⟨w0.heap.size, 4, none⟩ = some (.slice la ln lz) := X1.cell 4 rfl
    cases o1 with
    | false =>
      have HXF : Hid (xf = (false && bs.all (bkB D H))) := by show _ = _; rw [HF.out]; simp
      clear HF
      go_wp2_with fail
      clear a1 a4 b3 b4
      go_loopg [6, 51] bn (fun r g6 i wr => ∃ k : Nat, k ≤ bn ∧ r = bn - k ∧ i = .int .i64 (k : Int) ∧ g6 = .bool (false && (bs.take k).all (bkB D H)) ∧ Blk wr w.heap.size 23 #[.int .i64 V, .int .i64 D, .int .i64 Hd, .int .i64 H, .int .i64 L] ∧ Blk wr (w0.heap.size) 38 #[.int .i64 er, .int .i64 ec, .slice ea en ez, .slice ba bn bz, .slice la ln lz, .int .i64 gr, .int .i64 gc, .slice ga gn gz] ∧ Below w.heap.size w wr)
      case atStart => exact ⟨0, by omega, by omega, rfl, by simp, X0, X1, D4⟩
      case round =>
        clear X0 X1 D4
        obtain ⟨k, hk, rfl, rfl, rfl, X0, X1, DR⟩ := hrel
        rename World => wo
        by_cases hlt : k < bn
        · obtain ⟨xx, hxx⟩ : ∃ x, bs[k]? = some x := ⟨_, List.getElem?_eq_getElem (show k < bs.length by have := HBL.out; omega)⟩
          obtain ⟨gb, ob, eba, hcb⟩ := (HB.out wo DR).cells (by show 0 < bn; omega)
          have eba' : ba = some ⟨gb, ob, none⟩ := eba
          subst eba'
          have r0 := hcb k xx hxx
          have hok := (HB.out wo DR).ok xx (List.mem_of_getElem? hxx)
          have HSN : Hid ((bs.take (k + 1)).all (bkB D H) = ((bs.take k).all (bkB D H) && bkB D H xx)) := all_take hxx
          generalize (bs.take k).all (bkB D H) = p0 at *
          obtain ⟨g, hg⟩ : ∃ g, (false && p0) = g := ⟨_, rfl⟩
          have HG : Hid ((false && p0) = g) := hg
          rw [hg]
          clear hg
          obtain ⟨⟨vfa, vfn, vfz⟩, ⟨vqr, vqc, ⟨vqa, vqn, vqz⟩⟩, ⟨vkr, vkc, ⟨vka, vkn, vkz⟩⟩, ⟨vvr, vvc, ⟨vva, vvn, vvz⟩⟩, ⟨vor, voc, ⟨voa, von, voz⟩⟩, ⟨vsa, vsn, vsz⟩, ⟨vur, vuc, ⟨vua, vun, vuz⟩⟩, ⟨vdr, vdc, ⟨vda, vdn, vdz⟩⟩⟩ := xx
          rw [show Bk.cells ⟨⟨vfa, vfn, vfz⟩, ⟨vqr, vqc, ⟨vqa, vqn, vqz⟩⟩, ⟨vkr, vkc, ⟨vka, vkn, vkz⟩⟩, ⟨vvr, vvc, ⟨vva, vvn, vvz⟩⟩, ⟨vor, voc, ⟨voa, von, voz⟩⟩, ⟨vsa, vsn, vsz⟩, ⟨vur, vuc, ⟨vua, vun, vuz⟩⟩, ⟨vdr, vdc, ⟨vda, vdn, vdz⟩⟩⟩ = #[.slice vfa vfn vfz, .int .i64 vqr, .int .i64 vqc, .slice vqa vqn vqz, .int .i64 vkr, .int .i64 vkc, .slice vka vkn vkz, .int .i64 vvr, .int .i64 vvc, .slice vva vvn vvz, .int .i64 vor, .int .i64 voc, .slice voa von voz, .slice vsa vsn vsz, .int .i64 vur, .int .i64 vuc, .slice vua vun vuz, .int .i64 vdr, .int .i64 vdc, .slice vda vdn vdz] from rfl] at r0
          have HSN2 : Hid ((false && (bs.take (k + 1)).all (bkB D H)) = (g && bkB D H ⟨⟨vfa, vfn, vfz⟩, ⟨vqr, vqc, ⟨vqa, vqn, vqz⟩⟩, ⟨vkr, vkc, ⟨vka, vkn, vkz⟩⟩, ⟨vvr, vvc, ⟨vva, vvn, vvz⟩⟩, ⟨vor, voc, ⟨voa, von, voz⟩⟩, ⟨vsa, vsn, vsz⟩, ⟨vur, vuc, ⟨vua, vun, vuz⟩⟩, ⟨vdr, vdc, ⟨vda, vdn, vdz⟩⟩⟩)) := by show _ = _; rw [HSN.out, ← Bool.and_assoc, HG.out]
          clear HSN HG
          have HSN := HSN2
          clear HSN2
          have HBK : Hid (bkB D H ⟨⟨vfa, vfn, vfz⟩, ⟨vqr, vqc, ⟨vqa, vqn, vqz⟩⟩, ⟨vkr, vkc, ⟨vka, vkn, vkz⟩⟩, ⟨vvr, vvc, ⟨vva, vvn, vvz⟩⟩, ⟨vor, voc, ⟨voa, von, voz⟩⟩, ⟨vsa, vsn, vsz⟩, ⟨vur, vuc, ⟨vua, vun, vuz⟩⟩, ⟨vdr, vdc, ⟨vda, vdn, vdz⟩⟩⟩ = ((sidesB ⟨vqr, vqc, ⟨vqa, vqn, vqz⟩⟩ D D && sidesB ⟨vkr, vkc, ⟨vka, vkn, vkz⟩⟩ D D && sidesB ⟨vvr, vvc, ⟨vva, vvn, vvz⟩⟩ D D && sidesB ⟨vor, voc, ⟨voa, von, voz⟩⟩ D D) && sidesB ⟨vur, vuc, ⟨vua, vun, vuz⟩⟩ H D && sidesB ⟨vdr, vdc, ⟨vda, vdn, vdz⟩⟩ D H && decide ((vfn : Int) = D) && decide ((vsn : Int) = D))) := by show _ = _; rw [bk_order]; rfl
          have CU := fun wv => rfits6_any ⟨vur, vuc, ⟨vua, vun, vuz⟩⟩ H D wv hok.u
          have CD := fun wv => rfits6_any ⟨vdr, vdc, ⟨vda, vdn, vdz⟩⟩ D H wv hok.d
          have HM : Hid (∀ (j : Nat) (m : Mt), ([⟨vqr, vqc, ⟨vqa, vqn, vqz⟩⟩, ⟨vkr, vkc, ⟨vka, vkn, vkz⟩⟩, ⟨vvr, vvc, ⟨vva, vvn, vvz⟩⟩, ⟨vor, voc, ⟨voa, von, voz⟩⟩] : List Mt)[j]? = some m → m.Ok) := fun j m hm => by
            have := List.mem_of_getElem? hm
            simp only [List.mem_cons, List.not_mem_nil, or_false] at this
            rcases this with rfl | rfl | rfl | rfl
            · exact hok.q
            · exact hok.k
            · exact hok.v
            · exact hok.o
          have hfn : vfn ≤ 9223372036854775807 := hok.f
          have hsn : vsn ≤ 9223372036854775807 := hok.s
          have HM4 : Hid (([⟨vqr, vqc, ⟨vqa, vqn, vqz⟩⟩, ⟨vkr, vkc, ⟨vka, vkn, vkz⟩⟩, ⟨vvr, vvc, ⟨vva, vvn, vvz⟩⟩, ⟨vor, voc, ⟨voa, von, voz⟩⟩] : List Mt).all (fun m => sidesB m D D) = (sidesB ⟨vqr, vqc, ⟨vqa, vqn, vqz⟩⟩ D D && sidesB ⟨vkr, vkc, ⟨vka, vkn, vkz⟩⟩ D D && sidesB ⟨vvr, vvc, ⟨vva, vvn, vvz⟩⟩ D D && sidesB ⟨vor, voc, ⟨voa, von, voz⟩⟩ D D)) := by show _ = _; simp [Bool.and_assoc]
          simp only at CU CD
          clear hok hcb hxx eba
          generalize sidesB ⟨vur, vuc, ⟨vua, vun, vuz⟩⟩ H D = u1 at *
          generalize sidesB ⟨vdr, vdc, ⟨vda, vdn, vdz⟩⟩ D H = d1 at *
          generalize (sidesB ⟨vqr, vqc, ⟨vqa, vqn, vqz⟩⟩ D D && sidesB ⟨vkr, vkc, ⟨vka, vkn, vkz⟩⟩ D D && sidesB ⟨vvr, vvc, ⟨vva, vvn, vvz⟩⟩ D D && sidesB ⟨vor, voc, ⟨voa, von, voz⟩⟩ D D) = m4 at *
          have szr := DR.size
          have z1 := X1.lt
          obtain ⟨XE, XB, BF⟩ := var3f wo 61 #[.slice none 0 0, .int .i64 0, .int .i64 0, .slice none 0 0, .int .i64 0, .int .i64 0, .slice none 0 0, .int .i64 0, .int .i64 0, .slice none 0 0, .int .i64 0, .int .i64 0, .slice none 0 0, .slice none 0 0, .int .i64 0, .int .i64 0, .slice none 0 0, .int .i64 0, .int .i64 0, .slice none 0 0] #[.slice vfa vfn vfz, .int .i64 vqr, .int .i64 vqc, .slice vqa vqn vqz, .int .i64 vkr, .int .i64 vkc, .slice vka vkn vkz, .int .i64 vvr, .int .i64 vvc, .slice vva vvn vvz, .int .i64 vor, .int .i64 voc, .slice voa von voz, .slice vsa vsn vsz, .int .i64 vur, .int .i64 vuc, .slice vua vun vuz, .int .i64 vdr, .int .i64 vdc, .slice vda vdn vdz]
          have hone : Array.all (#[.slice vfa vfn vfz, .int .i64 vqr, .int .i64 vqc, .slice vqa vqn vqz, .int .i64 vkr, .int .i64 vkc, .slice vka vkn vkz, .int .i64 vvr, .int .i64 vvc, .slice vva vvn vvz, .int .i64 vor, .int .i64 voc, .slice voa von voz, .slice vsa vsn vsz, .int .i64 vur, .int .i64 vuc, .slice vua vun vuz, .int .i64 vdr, .int .i64 vdc, .slice vda vdn vdz] : Array Value) (fun v => v.oneCell') = true := by simp [Value.oneCell']
          generalize hwe : wo.alloc (.cells #[.slice none 0 0, .int .i64 0, .int .i64 0, .slice none 0 0, .int .i64 0, .int .i64 0, .slice none 0 0, .int .i64 0, .int .i64 0, .slice none 0 0, .int .i64 0, .int .i64 0, .slice none 0 0, .slice none 0 0, .int .i64 0, .int .i64 0, .slice none 0 0, .int .i64 0, .int .i64 0, .slice none 0 0] 61) = we at *
          generalize hwf : we.setRow wo.heap.size #[.slice vfa vfn vfz, .int .i64 vqr, .int .i64 vqc, .slice vqa vqn vqz, .int .i64 vkr, .int .i64 vkc, .slice vka vkn vkz, .int .i64 vvr, .int .i64 vvc, .slice vva vvn vvz, .int .i64 vor, .int .i64 voc, .slice voa von voz, .slice vsa vsn vsz, .int .i64 vur, .int .i64 vuc, .slice vua vun vuz, .int .i64 vdr, .int .i64 vdc, .slice vda vdn vdz] = wf at *
          have DF := below_then DR BF
          replace X0 := X0.below BF
          replace X1 := X1.below BF
          clear BF
          have x1 : wf.cell? ⟨wo.heap.size, 1, none⟩ = some (.int .i64 vqr) := XB.cell 1 rfl
          have x2 : wf.cell? ⟨wo.heap.size, 2, none⟩ = some (.int .i64 vqc) := XB.cell 2 rfl
          have x3 : wf.cell? ⟨wo.heap.size, 3, none⟩ = some (.slice vqa vqn vqz) := XB.cell 3 rfl
          have x4 : wf.cell? ⟨wo.heap.size, 4, none⟩ = some (.int .i64 vkr) := XB.cell 4 rfl
          have x5 : wf.cell? ⟨wo.heap.size, 5, none⟩ = some (.int .i64 vkc) := XB.cell 5 rfl
          have x6 : wf.cell? ⟨wo.heap.size, 6, none⟩ = some (.slice vka vkn vkz) := XB.cell 6 rfl
          have x7 : wf.cell? ⟨wo.heap.size, 7, none⟩ = some (.int .i64 vvr) := XB.cell 7 rfl
          have x8 : wf.cell? ⟨wo.heap.size, 8, none⟩ = some (.int .i64 vvc) := XB.cell 8 rfl
          have x9 : wf.cell? ⟨wo.heap.size, 9, none⟩ = some (.slice vva vvn vvz) := XB.cell 9 rfl
          have x10 : wf.cell? ⟨wo.heap.size, 10, none⟩ = some (.int .i64 vor) := XB.cell 10 rfl
          have x11 : wf.cell? ⟨wo.heap.size, 11, none⟩ = some (.int .i64 voc) := XB.cell 11 rfl
          have x12 : wf.cell? ⟨wo.heap.size, 12, none⟩ = some (.slice voa von voz) := XB.cell 12 rfl
          have BM : Below wf.heap.size wf (wf.alloc (.cells #[.int .i64 vqr, .int .i64 vqc, .slice vqa vqn vqz, .int .i64 vkr, .int .i64 vkc, .slice vka vkn vkz, .int .i64 vvr, .int .i64 vvc, .slice vva vvn vvz, .int .i64 vor, .int .i64 voc, .slice voa von voz] 26)) := (Below.refl _ _).alloc (Nat.le_refl _) _
          have XM := blk_new wf 26 #[.int .i64 vqr, .int .i64 vqc, .slice vqa vqn vqz, .int .i64 vkr, .int .i64 vkc, .slice vka vkn vkz, .int .i64 vvr, .int .i64 vvc, .slice vva vvn vvz, .int .i64 vor, .int .i64 voc, .slice voa von voz]
          go_upto_region 9 with (first | (refine wpList_load_mid rfl 61 _ rfl gb (ob + k * 20) rfl (#[.slice vfa vfn vfz, .int .i64 vqr, .int .i64 vqc, .slice vqa vqn vqz, .int .i64 vkr, .int .i64 vkc, .slice vka vkn vkz, .int .i64 vvr, .int .i64 vvc, .slice vva vvn vvz, .int .i64 vor, .int .i64 voc, .slice voa von voz, .slice vsa vsn vsz, .int .i64 vur, .int .i64 vuc, .slice vua vun vuz, .int .i64 vdr, .int .i64 vdc, .slice vda vdn vdz] : Array Value).toList _ r0 Tryz.underlying61 rfl (by exact Tryz.infoRB1) ?_) | (refine wpList_store_row rfl 61 _ _ rfl wo.heap.size #[.slice vfa vfn vfz, .int .i64 vqr, .int .i64 vqc, .slice vqa vqn vqz, .int .i64 vkr, .int .i64 vkc, .slice vka vkn vkz, .int .i64 vvr, .int .i64 vvc, .slice vva vvn vvz, .int .i64 vor, .int .i64 voc, .slice voa von voz, .slice vsa vsn vsz, .int .i64 vur, .int .i64 vuc, .slice vua vun vuz, .int .i64 vdr, .int .i64 vdc, .slice vda vdn vdz] rfl rfl 61 _ XE (by exact Tryz.infoRB1) rfl hone ?_; rw [hwf]))
          clear hwe hwf XE r0 hone x1 x2 x3 x4 x5 x6 x7 x8 x9 x10 x11 x12
          generalize hwm : wf.alloc (.cells #[.int .i64 vqr, .int .i64 vqc, .slice vqa vqn vqz, .int .i64 vkr, .int .i64 vkc, .slice vka vkn vkz, .int .i64 vvr, .int .i64 vvc, .slice vva vvn vvz, .int .i64 vor, .int .i64 voc, .slice voa von voz] 26) = wm at *
          replace X0 := X0.below BM
          replace X1 := X1.below BM
          replace XB := XB.below BM
          have DM := below_then DF BM
          clear BM hwm
          go_loopg [6, 65] 4 (fun r g6 i wv => ∃ j : Nat, j ≤ 4 ∧ r = 4 - j ∧ i = .int .i64 (j : Int) ∧ g6 = .bool (g && (([⟨vqr, vqc, ⟨vqa, vqn, vqz⟩⟩, ⟨vkr, vkc, ⟨vka, vkn, vkz⟩⟩, ⟨vvr, vvc, ⟨vva, vvn, vvz⟩⟩, ⟨vor, voc, ⟨voa, von, voz⟩⟩] : List Mt).take j).all fun m => sidesB m D D) ∧ Blk wv w.heap.size 23 #[.int .i64 V, .int .i64 D, .int .i64 Hd, .int .i64 H, .int .i64 L] ∧ Blk wv (w0.heap.size) 38 #[.int .i64 er, .int .i64 ec, .slice ea en ez, .slice (some ⟨gb, ob, none⟩) bn bz, .slice la ln lz, .int .i64 gr, .int .i64 gc, .slice ga gn gz] ∧ Blk wv wo.heap.size 61 #[.slice vfa vfn vfz, .int .i64 vqr, .int .i64 vqc, .slice vqa vqn vqz, .int .i64 vkr, .int .i64 vkc, .slice vka vkn vkz, .int .i64 vvr, .int .i64 vvc, .slice vva vvn vvz, .int .i64 vor, .int .i64 voc, .slice voa von voz, .slice vsa vsn vsz, .int .i64 vur, .int .i64 vuc, .slice vua vun vuz, .int .i64 vdr, .int .i64 vdc, .slice vda vdn vdz] ∧ Blk wv wf.heap.size 26 #[.int .i64 vqr, .int .i64 vqc, .slice vqa vqn vqz, .int .i64 vkr, .int .i64 vkc, .slice vka vkn vkz, .int .i64 vvr, .int .i64 vvc, .slice vva vvn vvz, .int .i64 vor, .int .i64 voc, .slice voa von voz] ∧ Below w.heap.size w wv)
          case atStart => exact ⟨0, by omega, by omega, rfl, by simp, X0, X1, XB, XM, DM⟩
          case round =>
            clear X0 X1 XB XM DM
            obtain ⟨j, hj, rfl, rfl, rfl, X0, X1, XB, XM, DV⟩ := hrel
            by_cases hj4 : j < 4
            · obtain ⟨m, hm⟩ : ∃ m, ([⟨vqr, vqc, ⟨vqa, vqn, vqz⟩⟩, ⟨vkr, vkc, ⟨vka, vkn, vkz⟩⟩, ⟨vvr, vvc, ⟨vva, vvn, vvz⟩⟩, ⟨vor, voc, ⟨voa, von, voz⟩⟩] : List Mt)[j]? = some m := ⟨_, List.getElem?_eq_getElem (show j < ([⟨vqr, vqc, ⟨vqa, vqn, vqz⟩⟩, ⟨vkr, vkc, ⟨vka, vkn, vkz⟩⟩, ⟨vvr, vvc, ⟨vva, vvn, vvz⟩⟩, ⟨vor, voc, ⟨voa, von, voz⟩⟩] : List Mt).length from hj4)⟩
              have hmo := HM.out j m hm
              have rj : wr.rangeAt wf.heap.size (j * 3) [.int .i64 m.r, .int .i64 m.c, .slice m.d.ao m.d.n m.d.c] := mat4_range XM hm
              have HT : Hid (((([⟨vqr, vqc, ⟨vqa, vqn, vqz⟩⟩, ⟨vkr, vkc, ⟨vka, vkn, vkz⟩⟩, ⟨vvr, vvc, ⟨vva, vvn, vvz⟩⟩, ⟨vor, voc, ⟨voa, von, voz⟩⟩] : List Mt).take (j + 1)).all fun m => sidesB m D D) = (((([⟨vqr, vqc, ⟨vqa, vqn, vqz⟩⟩, ⟨vkr, vkc, ⟨vka, vkn, vkz⟩⟩, ⟨vvr, vvc, ⟨vva, vvn, vvz⟩⟩, ⟨vor, voc, ⟨voa, von, voz⟩⟩] : List Mt).take j).all fun m => sidesB m D D) && sidesB m D D)) := by
                show _ = _
                rw [List.take_add_one, hm, List.all_append]; simp
              generalize ((([⟨vqr, vqc, ⟨vqa, vqn, vqz⟩⟩, ⟨vkr, vkc, ⟨vka, vkn, vkz⟩⟩, ⟨vvr, vvc, ⟨vva, vvn, vvz⟩⟩, ⟨vor, voc, ⟨voa, von, voz⟩⟩] : List Mt).take j).all fun m => sidesB m D D) = pj at *
              obtain ⟨gj, hgj⟩ : ∃ gj, (g && pj) = gj := ⟨_, rfl⟩
              have HGJ : Hid ((g && pj) = gj) := hgj
              rw [hgj]
              clear hgj hm
              obtain ⟨mr, mc, ⟨ma, mn, mz⟩⟩ := m
              have CM := fun wx => rfits6_any ⟨mr, mc, ⟨ma, mn, mz⟩⟩ D D wx hmo
              simp only at CM rj
              generalize sidesB ⟨mr, mc, ⟨ma, mn, mz⟩⟩ D D = sm at *
              obtain ⟨XE2, XK, BK⟩ := var3f wr 26 #[.int .i64 0, .int .i64 0, .slice none 0 0] #[.int .i64 mr, .int .i64 mc, .slice ma mn mz]
              generalize hwe2 : wr.alloc (.cells #[.int .i64 0, .int .i64 0, .slice none 0 0] 26) = we2 at *
              generalize hwf2 : we2.setRow wr.heap.size #[.int .i64 mr, .int .i64 mc, .slice ma mn mz] = wk at *
              replace X0 := X0.below BK
              replace X1 := X1.below BK
              replace XB := XB.below BK
              replace XM := XM.below BK
              have DK := below_then DV BK
              clear BK
              have a1 : wk.cell? ⟨w.heap.size, 1, none⟩ = some (.int .i64 D) := X0.cell 1 rfl
              have m0 : wk.cell? ⟨wr.heap.size, 0, none⟩ = some (.int .i64 mr) := XK.cell 0 rfl
              have m1 : wk.cell? ⟨wr.heap.size, 1, none⟩ = some (.int .i64 mc) := XK.cell 1 rfl
              have m2 : wk.cell? ⟨wr.heap.size, 2, none⟩ = some (.slice ma mn mz) := XK.cell 2 rfl
              go_upto_region 11 with (first | (refine wpList_load_mid rfl 26 _ rfl wf.heap.size (j * 3) rfl [.int .i64 mr, .int .i64 mc, .slice ma mn mz] _ rj Tryz.underlying26 rfl (by kernel_rfl) ?_) | (refine wpList_store_row rfl 26 _ _ rfl wr.heap.size #[.int .i64 mr, .int .i64 mc, .slice ma mn mz] rfl rfl 26 _ XE2 (by kernel_rfl) rfl (by simp [Value.oneCell']) ?_; rw [hwf2]))
              clear hwe2 hwf2 XE2 rj
              cases gj with
              | false =>
                clear CM
                go_wp2_with fail
                clear a1 m0 m1 m2
                go_roundg (4 - (j + 1))
                case measure => omega
                case rel => exact ⟨j + 1, by omega, rfl, by go_num, by rw [HT.out, ← Bool.and_assoc, HGJ.out]; rfl, X0, X1, XB, XM, DK⟩
              | true =>
                go_wp2_with fail
                refine (CM wk).mono ?_
                rintro e wy ⟨rfl, BY⟩
                replace X0 := X0.below BY
                replace X1 := X1.below BY
                replace XB := XB.below BY
                replace XM := XM.below BY
                have DY := below_then DK BY
                clear a1 m0 m1 m2 CM BY DK
                go_wp2_with fail
                go_roundg (4 - (j + 1))
                case measure => omega
                case rel => exact ⟨j + 1, by omega, rfl, by go_num, by rw [HT.out, ← Bool.and_assoc, HGJ.out]; rfl, X0, X1, XB, XM, DY⟩
            · obtain rfl : j = 4 := by omega
              have HQ4 : Hid ((g && (([⟨vqr, vqc, ⟨vqa, vqn, vqz⟩⟩, ⟨vkr, vkc, ⟨vka, vkn, vkz⟩⟩, ⟨vvr, vvc, ⟨vva, vvn, vvz⟩⟩, ⟨vor, voc, ⟨voa, von, voz⟩⟩] : List Mt).take 4).all fun m => sidesB m D D) = (g && m4)) := by show _ = _; rw [List.take_of_length_le (by simp), HM4.out]
              generalize (g && (([⟨vqr, vqc, ⟨vqa, vqn, vqz⟩⟩, ⟨vkr, vkc, ⟨vka, vkn, vkz⟩⟩, ⟨vvr, vvc, ⟨vva, vvn, vvz⟩⟩, ⟨vor, voc, ⟨voa, von, voz⟩⟩] : List Mt).take 4).all fun m => sidesB m D D) = q4 at *
              have HE : Hid ((g && bkB D H ⟨⟨vfa, vfn, vfz⟩, ⟨vqr, vqc, ⟨vqa, vqn, vqz⟩⟩, ⟨vkr, vkc, ⟨vka, vkn, vkz⟩⟩, ⟨vvr, vvc, ⟨vva, vvn, vvz⟩⟩, ⟨vor, voc, ⟨voa, von, voz⟩⟩, ⟨vsa, vsn, vsz⟩, ⟨vur, vuc, ⟨vua, vun, vuz⟩⟩, ⟨vdr, vdc, ⟨vda, vdn, vdz⟩⟩⟩) = (q4 && u1 && d1 && decide ((vfn : Int) = D) && decide ((vsn : Int) = D))) := by show _ = _; rw [HBK.out, HQ4.out]; simp only [Bool.and_assoc]
              clear HBK HQ4 HM HM4 XM
              have a1 : wr.cell? ⟨w.heap.size, 1, none⟩ = some (.int .i64 D) := X0.cell 1 rfl
              have a3 : wr.cell? ⟨w.heap.size, 3, none⟩ = some (.int .i64 H) := X0.cell 3 rfl
              have x14 : wr.cell? ⟨wo.heap.size, 14, none⟩ = some (.int .i64 vur) := XB.cell 14 rfl
              have x15 : wr.cell? ⟨wo.heap.size, 15, none⟩ = some (.int .i64 vuc) := XB.cell 15 rfl
              have x16 : wr.cell? ⟨wo.heap.size, 16, none⟩ = some (.slice vua vun vuz) := XB.cell 16 rfl
              cases q4 with
              | false =>
                clear CU CD
                go_wp2_with fail
                clear a1 a3 x14 x15 x16
                go_roundg (bn - (k + 1))
                case measure => omega
                case rel => exact ⟨k + 1, by omega, rfl, by go_num, by rw [HSN.out, HE.out]; rfl, X0, X1, DV⟩
              | true =>
                go_wp2_with fail
                refine (CU wr).mono ?_
                rintro e wy ⟨rfl, BY⟩
                replace X0 := X0.below BY
                replace X1 := X1.below BY
                replace XB := XB.below BY
                have DY := below_then DV BY
                clear a1 a3 x14 x15 x16 CU BY DV
                have a1 : wy.cell? ⟨w.heap.size, 1, none⟩ = some (.int .i64 D) := X0.cell 1 rfl
                have a3 : wy.cell? ⟨w.heap.size, 3, none⟩ = some (.int .i64 H) := X0.cell 3 rfl
                have x17 : wy.cell? ⟨wo.heap.size, 17, none⟩ = some (.int .i64 vdr) := XB.cell 17 rfl
                have x18 : wy.cell? ⟨wo.heap.size, 18, none⟩ = some (.int .i64 vdc) := XB.cell 18 rfl
                have x19 : wy.cell? ⟨wo.heap.size, 19, none⟩ = some (.slice vda vdn vdz) := XB.cell 19 rfl
                cases u1 with
                | false =>
                  clear CD
                  go_wp2_with fail
                  clear a1 a3 x17 x18 x19
                  go_roundg (bn - (k + 1))
                  case measure => omega
                  case rel => exact ⟨k + 1, by omega, rfl, by go_num, by rw [HSN.out, HE.out]; rfl, X0, X1, DY⟩
                | true =>
                  go_wp2_with fail
                  refine (CD wy).mono ?_
                  rintro e wz ⟨rfl, BY⟩
                  replace X0 := X0.below BY
                  replace X1 := X1.below BY
                  replace XB := XB.below BY
                  have DZ := below_then DY BY
                  clear a1 a3 x17 x18 x19 CD BY DY
                  have a1 : wz.cell? ⟨w.heap.size, 1, none⟩ = some (.int .i64 D) := X0.cell 1 rfl
                  have x0 : wz.cell? ⟨wo.heap.size, 0, none⟩ = some (.slice vfa vfn vfz) := XB.cell 0 rfl
                  have x13 : wz.cell? ⟨wo.heap.size, 13, none⟩ = some (.slice vsa vsn vsz) := XB.cell 13 rfl
                  cases d1 with
                  | false =>
                    go_wp2_with fail
                    clear a1 x0 x13
                    go_roundg (bn - (k + 1))
                    case measure => omega
                    case rel => exact ⟨k + 1, by omega, rfl, by go_num, by rw [HSN.out, HE.out]; rfl, X0, X1, DZ⟩
                  | true =>
                    by_cases h1 : (vfn : Int) = D
                    · have h2 : ((vfn : Int) == D) = true := by simpa using h1
                      have HE2 : Hid ((true && true && true && decide ((vfn : Int) = D) && decide ((vsn : Int) = D)) = ((vsn : Int) == D)) := by show _ = _; rw [show decide ((vfn : Int) = D) = true from decide_eq_true h1]; simp; rfl
                      clear h1
                      go_wp2_with fail
                      clear a1 x0 x13 h2
                      go_roundg (bn - (k + 1))
                      case measure => omega
                      case rel => exact ⟨k + 1, by omega, rfl, by go_num, by rw [HSN.out, HE.out, HE2.out], X0, X1, DZ⟩
                    · have h2 : ((vfn : Int) == D) = false := by simpa using h1
                      have HE2 : Hid ((true && true && true && decide ((vfn : Int) = D) && decide ((vsn : Int) = D)) = false) := by show _ = _; rw [show decide ((vfn : Int) = D) = false from decide_eq_false h1]; rfl
                      clear h1
                      go_wp2_with fail
                      clear a1 x0 x13 h2
                      go_roundg (bn - (k + 1))
                      case measure => omega
                      case rel => exact ⟨k + 1, by omega, rfl, by go_num, by rw [HSN.out, HE.out, HE2.out], X0, X1, DZ⟩
        · obtain rfl : k = bn := by omega
          have HZ : Hid (xf = (false && (bs.take k).all (bkB D H))) := by show _ = _; rw [HXF.out, List.take_of_length_le (by have := HBL.out; omega)]
          generalize (false && (bs.take k).all (bkB D H)) = z at *
          cases z with
          | false =>
            go_wp2_with fail
            go_ret
            exact ⟨by rw [HR.out, HZ.out]; rfl, DR⟩
          | true =>
            go_wp2_with fail
            go_ret
            exact ⟨by rw [HR.out, HZ.out]; rfl, DR⟩
    | true =>
      by_cases hl : (ln : Int) = D
      · have hl2 : ((ln : Int) == D) = true := by simpa using hl
        by_cases hbl : (bn : Int) = L
        · have hb2 : ((bn : Int) == L) = true := by simpa using hbl
          have HXF : Hid (xf = (true && bs.all (bkB D H))) := by show _ = _; rw [HF.out, show decide ((ln : Int) = D) = true from decide_eq_true hl, show decide ((bn : Int) = L) = true from decide_eq_true hbl]; simp
          clear HF hl hbl
          go_wp2_with fail
          clear a1 a4 b3 b4 hl2 hb2
          go_loopg [6, 51] bn (fun r g6 i wr => ∃ k : Nat, k ≤ bn ∧ r = bn - k ∧ i = .int .i64 (k : Int) ∧ g6 = .bool (true && (bs.take k).all (bkB D H)) ∧ Blk wr w.heap.size 23 #[.int .i64 V, .int .i64 D, .int .i64 Hd, .int .i64 H, .int .i64 L] ∧ Blk wr (w0.heap.size) 38 #[.int .i64 er, .int .i64 ec, .slice ea en ez, .slice ba bn bz, .slice la ln lz, .int .i64 gr, .int .i64 gc, .slice ga gn gz] ∧ Below w.heap.size w wr)
          case atStart => exact ⟨0, by omega, by omega, rfl, by simp, X0, X1, D4⟩
          case round =>
            clear X0 X1 D4
            obtain ⟨k, hk, rfl, rfl, rfl, X0, X1, DR⟩ := hrel
            rename World => wo
            by_cases hlt : k < bn
            · obtain ⟨xx, hxx⟩ : ∃ x, bs[k]? = some x := ⟨_, List.getElem?_eq_getElem (show k < bs.length by have := HBL.out; omega)⟩
              obtain ⟨gb, ob, eba, hcb⟩ := (HB.out wo DR).cells (by show 0 < bn; omega)
              have eba' : ba = some ⟨gb, ob, none⟩ := eba
              subst eba'
              have r0 := hcb k xx hxx
              have hok := (HB.out wo DR).ok xx (List.mem_of_getElem? hxx)
              have HSN : Hid ((bs.take (k + 1)).all (bkB D H) = ((bs.take k).all (bkB D H) && bkB D H xx)) := all_take hxx
              generalize (bs.take k).all (bkB D H) = p0 at *
              obtain ⟨g, hg⟩ : ∃ g, (true && p0) = g := ⟨_, rfl⟩
              have HG : Hid ((true && p0) = g) := hg
              rw [hg]
              clear hg
              obtain ⟨⟨vfa, vfn, vfz⟩, ⟨vqr, vqc, ⟨vqa, vqn, vqz⟩⟩, ⟨vkr, vkc, ⟨vka, vkn, vkz⟩⟩, ⟨vvr, vvc, ⟨vva, vvn, vvz⟩⟩, ⟨vor, voc, ⟨voa, von, voz⟩⟩, ⟨vsa, vsn, vsz⟩, ⟨vur, vuc, ⟨vua, vun, vuz⟩⟩, ⟨vdr, vdc, ⟨vda, vdn, vdz⟩⟩⟩ := xx
              rw [show Bk.cells ⟨⟨vfa, vfn, vfz⟩, ⟨vqr, vqc, ⟨vqa, vqn, vqz⟩⟩, ⟨vkr, vkc, ⟨vka, vkn, vkz⟩⟩, ⟨vvr, vvc, ⟨vva, vvn, vvz⟩⟩, ⟨vor, voc, ⟨voa, von, voz⟩⟩, ⟨vsa, vsn, vsz⟩, ⟨vur, vuc, ⟨vua, vun, vuz⟩⟩, ⟨vdr, vdc, ⟨vda, vdn, vdz⟩⟩⟩ = #[.slice vfa vfn vfz, .int .i64 vqr, .int .i64 vqc, .slice vqa vqn vqz, .int .i64 vkr, .int .i64 vkc, .slice vka vkn vkz, .int .i64 vvr, .int .i64 vvc, .slice vva vvn vvz, .int .i64 vor, .int .i64 voc, .slice voa von voz, .slice vsa vsn vsz, .int .i64 vur, .int .i64 vuc, .slice vua vun vuz, .int .i64 vdr, .int .i64 vdc, .slice vda vdn vdz] from rfl] at r0
              have HSN2 : Hid ((true && (bs.take (k + 1)).all (bkB D H)) = (g && bkB D H ⟨⟨vfa, vfn, vfz⟩, ⟨vqr, vqc, ⟨vqa, vqn, vqz⟩⟩, ⟨vkr, vkc, ⟨vka, vkn, vkz⟩⟩, ⟨vvr, vvc, ⟨vva, vvn, vvz⟩⟩, ⟨vor, voc, ⟨voa, von, voz⟩⟩, ⟨vsa, vsn, vsz⟩, ⟨vur, vuc, ⟨vua, vun, vuz⟩⟩, ⟨vdr, vdc, ⟨vda, vdn, vdz⟩⟩⟩)) := by show _ = _; rw [HSN.out, ← Bool.and_assoc, HG.out]
              clear HSN HG
              have HSN := HSN2
              clear HSN2
              have HBK : Hid (bkB D H ⟨⟨vfa, vfn, vfz⟩, ⟨vqr, vqc, ⟨vqa, vqn, vqz⟩⟩, ⟨vkr, vkc, ⟨vka, vkn, vkz⟩⟩, ⟨vvr, vvc, ⟨vva, vvn, vvz⟩⟩, ⟨vor, voc, ⟨voa, von, voz⟩⟩, ⟨vsa, vsn, vsz⟩, ⟨vur, vuc, ⟨vua, vun, vuz⟩⟩, ⟨vdr, vdc, ⟨vda, vdn, vdz⟩⟩⟩ = ((sidesB ⟨vqr, vqc, ⟨vqa, vqn, vqz⟩⟩ D D && sidesB ⟨vkr, vkc, ⟨vka, vkn, vkz⟩⟩ D D && sidesB ⟨vvr, vvc, ⟨vva, vvn, vvz⟩⟩ D D && sidesB ⟨vor, voc, ⟨voa, von, voz⟩⟩ D D) && sidesB ⟨vur, vuc, ⟨vua, vun, vuz⟩⟩ H D && sidesB ⟨vdr, vdc, ⟨vda, vdn, vdz⟩⟩ D H && decide ((vfn : Int) = D) && decide ((vsn : Int) = D))) := by show _ = _; rw [bk_order]; rfl
              have CU := fun wv => rfits6_any ⟨vur, vuc, ⟨vua, vun, vuz⟩⟩ H D wv hok.u
              have CD := fun wv => rfits6_any ⟨vdr, vdc, ⟨vda, vdn, vdz⟩⟩ D H wv hok.d
              have HM : Hid (∀ (j : Nat) (m : Mt), ([⟨vqr, vqc, ⟨vqa, vqn, vqz⟩⟩, ⟨vkr, vkc, ⟨vka, vkn, vkz⟩⟩, ⟨vvr, vvc, ⟨vva, vvn, vvz⟩⟩, ⟨vor, voc, ⟨voa, von, voz⟩⟩] : List Mt)[j]? = some m → m.Ok) := fun j m hm => by
                have := List.mem_of_getElem? hm
                simp only [List.mem_cons, List.not_mem_nil, or_false] at this
                rcases this with rfl | rfl | rfl | rfl
                · exact hok.q
                · exact hok.k
                · exact hok.v
                · exact hok.o
              have hfn : vfn ≤ 9223372036854775807 := hok.f
              have hsn : vsn ≤ 9223372036854775807 := hok.s
              have HM4 : Hid (([⟨vqr, vqc, ⟨vqa, vqn, vqz⟩⟩, ⟨vkr, vkc, ⟨vka, vkn, vkz⟩⟩, ⟨vvr, vvc, ⟨vva, vvn, vvz⟩⟩, ⟨vor, voc, ⟨voa, von, voz⟩⟩] : List Mt).all (fun m => sidesB m D D) = (sidesB ⟨vqr, vqc, ⟨vqa, vqn, vqz⟩⟩ D D && sidesB ⟨vkr, vkc, ⟨vka, vkn, vkz⟩⟩ D D && sidesB ⟨vvr, vvc, ⟨vva, vvn, vvz⟩⟩ D D && sidesB ⟨vor, voc, ⟨voa, von, voz⟩⟩ D D)) := by show _ = _; simp [Bool.and_assoc]
              simp only at CU CD
              clear hok hcb hxx eba
              generalize sidesB ⟨vur, vuc, ⟨vua, vun, vuz⟩⟩ H D = u1 at *
              generalize sidesB ⟨vdr, vdc, ⟨vda, vdn, vdz⟩⟩ D H = d1 at *
              generalize (sidesB ⟨vqr, vqc, ⟨vqa, vqn, vqz⟩⟩ D D && sidesB ⟨vkr, vkc, ⟨vka, vkn, vkz⟩⟩ D D && sidesB ⟨vvr, vvc, ⟨vva, vvn, vvz⟩⟩ D D && sidesB ⟨vor, voc, ⟨voa, von, voz⟩⟩ D D) = m4 at *
              have szr := DR.size
              have z1 := X1.lt
              obtain ⟨XE, XB, BF⟩ := var3f wo 61 #[.slice none 0 0, .int .i64 0, .int .i64 0, .slice none 0 0, .int .i64 0, .int .i64 0, .slice none 0 0, .int .i64 0, .int .i64 0, .slice none 0 0, .int .i64 0, .int .i64 0, .slice none 0 0, .slice none 0 0, .int .i64 0, .int .i64 0, .slice none 0 0, .int .i64 0, .int .i64 0, .slice none 0 0] #[.slice vfa vfn vfz, .int .i64 vqr, .int .i64 vqc, .slice vqa vqn vqz, .int .i64 vkr, .int .i64 vkc, .slice vka vkn vkz, .int .i64 vvr, .int .i64 vvc, .slice vva vvn vvz, .int .i64 vor, .int .i64 voc, .slice voa von voz, .slice vsa vsn vsz, .int .i64 vur, .int .i64 vuc, .slice vua vun vuz, .int .i64 vdr, .int .i64 vdc, .slice vda vdn vdz]
              have hone : Array.all (#[.slice vfa vfn vfz, .int .i64 vqr, .int .i64 vqc, .slice vqa vqn vqz, .int .i64 vkr, .int .i64 vkc, .slice vka vkn vkz, .int .i64 vvr, .int .i64 vvc, .slice vva vvn vvz, .int .i64 vor, .int .i64 voc, .slice voa von voz, .slice vsa vsn vsz, .int .i64 vur, .int .i64 vuc, .slice vua vun vuz, .int .i64 vdr, .int .i64 vdc, .slice vda vdn vdz] : Array Value) (fun v => v.oneCell') = true := by simp [Value.oneCell']
              generalize hwe : wo.alloc (.cells #[.slice none 0 0, .int .i64 0, .int .i64 0, .slice none 0 0, .int .i64 0, .int .i64 0, .slice none 0 0, .int .i64 0, .int .i64 0, .slice none 0 0, .int .i64 0, .int .i64 0, .slice none 0 0, .slice none 0 0, .int .i64 0, .int .i64 0, .slice none 0 0, .int .i64 0, .int .i64 0, .slice none 0 0] 61) = we at *
              generalize hwf : we.setRow wo.heap.size #[.slice vfa vfn vfz, .int .i64 vqr, .int .i64 vqc, .slice vqa vqn vqz, .int .i64 vkr, .int .i64 vkc, .slice vka vkn vkz, .int .i64 vvr, .int .i64 vvc, .slice vva vvn vvz, .int .i64 vor, .int .i64 voc, .slice voa von voz, .slice vsa vsn vsz, .int .i64 vur, .int .i64 vuc, .slice vua vun vuz, .int .i64 vdr, .int .i64 vdc, .slice vda vdn vdz] = wf at *
              have DF := below_then DR BF
              replace X0 := X0.below BF
              replace X1 := X1.below BF
              clear BF
              have x1 : wf.cell? ⟨wo.heap.size, 1, none⟩ = some (.int .i64 vqr) := XB.cell 1 rfl
              have x2 : wf.cell? ⟨wo.heap.size, 2, none⟩ = some (.int .i64 vqc) := XB.cell 2 rfl
              have x3 : wf.cell? ⟨wo.heap.size, 3, none⟩ = some (.slice vqa vqn vqz) := XB.cell 3 rfl
              have x4 : wf.cell? ⟨wo.heap.size, 4, none⟩ = some (.int .i64 vkr) := XB.cell 4 rfl
              have x5 : wf.cell? ⟨wo.heap.size, 5, none⟩ = some (.int .i64 vkc) := XB.cell 5 rfl
              have x6 : wf.cell? ⟨wo.heap.size, 6, none⟩ = some (.slice vka vkn vkz) := XB.cell 6 rfl
              have x7 : wf.cell? ⟨wo.heap.size, 7, none⟩ = some (.int .i64 vvr) := XB.cell 7 rfl
              have x8 : wf.cell? ⟨wo.heap.size, 8, none⟩ = some (.int .i64 vvc) := XB.cell 8 rfl
              have x9 : wf.cell? ⟨wo.heap.size, 9, none⟩ = some (.slice vva vvn vvz) := XB.cell 9 rfl
              have x10 : wf.cell? ⟨wo.heap.size, 10, none⟩ = some (.int .i64 vor) := XB.cell 10 rfl
              have x11 : wf.cell? ⟨wo.heap.size, 11, none⟩ = some (.int .i64 voc) := XB.cell 11 rfl
              have x12 : wf.cell? ⟨wo.heap.size, 12, none⟩ = some (.slice voa von voz) := XB.cell 12 rfl
              have BM : Below wf.heap.size wf (wf.alloc (.cells #[.int .i64 vqr, .int .i64 vqc, .slice vqa vqn vqz, .int .i64 vkr, .int .i64 vkc, .slice vka vkn vkz, .int .i64 vvr, .int .i64 vvc, .slice vva vvn vvz, .int .i64 vor, .int .i64 voc, .slice voa von voz] 26)) := (Below.refl _ _).alloc (Nat.le_refl _) _
              have XM := blk_new wf 26 #[.int .i64 vqr, .int .i64 vqc, .slice vqa vqn vqz, .int .i64 vkr, .int .i64 vkc, .slice vka vkn vkz, .int .i64 vvr, .int .i64 vvc, .slice vva vvn vvz, .int .i64 vor, .int .i64 voc, .slice voa von voz]
              go_upto_region 9 with (first | (refine wpList_load_mid rfl 61 _ rfl gb (ob + k * 20) rfl (#[.slice vfa vfn vfz, .int .i64 vqr, .int .i64 vqc, .slice vqa vqn vqz, .int .i64 vkr, .int .i64 vkc, .slice vka vkn vkz, .int .i64 vvr, .int .i64 vvc, .slice vva vvn vvz, .int .i64 vor, .int .i64 voc, .slice voa von voz, .slice vsa vsn vsz, .int .i64 vur, .int .i64 vuc, .slice vua vun vuz, .int .i64 vdr, .int .i64 vdc, .slice vda vdn vdz] : Array Value).toList _ r0 Tryz.underlying61 rfl (by exact Tryz.infoRB1) ?_) | (refine wpList_store_row rfl 61 _ _ rfl wo.heap.size #[.slice vfa vfn vfz, .int .i64 vqr, .int .i64 vqc, .slice vqa vqn vqz, .int .i64 vkr, .int .i64 vkc, .slice vka vkn vkz, .int .i64 vvr, .int .i64 vvc, .slice vva vvn vvz, .int .i64 vor, .int .i64 voc, .slice voa von voz, .slice vsa vsn vsz, .int .i64 vur, .int .i64 vuc, .slice vua vun vuz, .int .i64 vdr, .int .i64 vdc, .slice vda vdn vdz] rfl rfl 61 _ XE (by exact Tryz.infoRB1) rfl hone ?_; rw [hwf]))
              clear hwe hwf XE r0 hone x1 x2 x3 x4 x5 x6 x7 x8 x9 x10 x11 x12
              generalize hwm : wf.alloc (.cells #[.int .i64 vqr, .int .i64 vqc, .slice vqa vqn vqz, .int .i64 vkr, .int .i64 vkc, .slice vka vkn vkz, .int .i64 vvr, .int .i64 vvc, .slice vva vvn vvz, .int .i64 vor, .int .i64 voc, .slice voa von voz] 26) = wm at *
              replace X0 := X0.below BM
              replace X1 := X1.below BM
              replace XB := XB.below BM
              have DM := below_then DF BM
              clear BM hwm
              go_loopg [6, 65] 4 (fun r g6 i wv => ∃ j : Nat, j ≤ 4 ∧ r = 4 - j ∧ i = .int .i64 (j : Int) ∧ g6 = .bool (g && (([⟨vqr, vqc, ⟨vqa, vqn, vqz⟩⟩, ⟨vkr, vkc, ⟨vka, vkn, vkz⟩⟩, ⟨vvr, vvc, ⟨vva, vvn, vvz⟩⟩, ⟨vor, voc, ⟨voa, von, voz⟩⟩] : List Mt).take j).all fun m => sidesB m D D) ∧ Blk wv w.heap.size 23 #[.int .i64 V, .int .i64 D, .int .i64 Hd, .int .i64 H, .int .i64 L] ∧ Blk wv (w0.heap.size) 38 #[.int .i64 er, .int .i64 ec, .slice ea en ez, .slice (some ⟨gb, ob, none⟩) bn bz, .slice la ln lz, .int .i64 gr, .int .i64 gc, .slice ga gn gz] ∧ Blk wv wo.heap.size 61 #[.slice vfa vfn vfz, .int .i64 vqr, .int .i64 vqc, .slice vqa vqn vqz, .int .i64 vkr, .int .i64 vkc, .slice vka vkn vkz, .int .i64 vvr, .int .i64 vvc, .slice vva vvn vvz, .int .i64 vor, .int .i64 voc, .slice voa von voz, .slice vsa vsn vsz, .int .i64 vur, .int .i64 vuc, .slice vua vun vuz, .int .i64 vdr, .int .i64 vdc, .slice vda vdn vdz] ∧ Blk wv wf.heap.size 26 #[.int .i64 vqr, .int .i64 vqc, .slice vqa vqn vqz, .int .i64 vkr, .int .i64 vkc, .slice vka vkn vkz, .int .i64 vvr, .int .i64 vvc, .slice vva vvn vvz, .int .i64 vor, .int .i64 voc, .slice voa von voz] ∧ Below w.heap.size w wv)
              case atStart => exact ⟨0, by omega, by omega, rfl, by simp, X0, X1, XB, XM, DM⟩
              case round =>
                clear X0 X1 XB XM DM
                obtain ⟨j, hj, rfl, rfl, rfl, X0, X1, XB, XM, DV⟩ := hrel
                by_cases hj4 : j < 4
                · obtain ⟨m, hm⟩ : ∃ m, ([⟨vqr, vqc, ⟨vqa, vqn, vqz⟩⟩, ⟨vkr, vkc, ⟨vka, vkn, vkz⟩⟩, ⟨vvr, vvc, ⟨vva, vvn, vvz⟩⟩, ⟨vor, voc, ⟨voa, von, voz⟩⟩] : List Mt)[j]? = some m := ⟨_, List.getElem?_eq_getElem (show j < ([⟨vqr, vqc, ⟨vqa, vqn, vqz⟩⟩, ⟨vkr, vkc, ⟨vka, vkn, vkz⟩⟩, ⟨vvr, vvc, ⟨vva, vvn, vvz⟩⟩, ⟨vor, voc, ⟨voa, von, voz⟩⟩] : List Mt).length from hj4)⟩
                  have hmo := HM.out j m hm
                  have rj : wr.rangeAt wf.heap.size (j * 3) [.int .i64 m.r, .int .i64 m.c, .slice m.d.ao m.d.n m.d.c] := mat4_range XM hm
                  have HT : Hid (((([⟨vqr, vqc, ⟨vqa, vqn, vqz⟩⟩, ⟨vkr, vkc, ⟨vka, vkn, vkz⟩⟩, ⟨vvr, vvc, ⟨vva, vvn, vvz⟩⟩, ⟨vor, voc, ⟨voa, von, voz⟩⟩] : List Mt).take (j + 1)).all fun m => sidesB m D D) = (((([⟨vqr, vqc, ⟨vqa, vqn, vqz⟩⟩, ⟨vkr, vkc, ⟨vka, vkn, vkz⟩⟩, ⟨vvr, vvc, ⟨vva, vvn, vvz⟩⟩, ⟨vor, voc, ⟨voa, von, voz⟩⟩] : List Mt).take j).all fun m => sidesB m D D) && sidesB m D D)) := by
                    show _ = _
                    rw [List.take_add_one, hm, List.all_append]; simp
                  generalize ((([⟨vqr, vqc, ⟨vqa, vqn, vqz⟩⟩, ⟨vkr, vkc, ⟨vka, vkn, vkz⟩⟩, ⟨vvr, vvc, ⟨vva, vvn, vvz⟩⟩, ⟨vor, voc, ⟨voa, von, voz⟩⟩] : List Mt).take j).all fun m => sidesB m D D) = pj at *
                  obtain ⟨gj, hgj⟩ : ∃ gj, (g && pj) = gj := ⟨_, rfl⟩
                  have HGJ : Hid ((g && pj) = gj) := hgj
                  rw [hgj]
                  clear hgj hm
                  obtain ⟨mr, mc, ⟨ma, mn, mz⟩⟩ := m
                  have CM := fun wx => rfits6_any ⟨mr, mc, ⟨ma, mn, mz⟩⟩ D D wx hmo
                  simp only at CM rj
                  generalize sidesB ⟨mr, mc, ⟨ma, mn, mz⟩⟩ D D = sm at *
                  obtain ⟨XE2, XK, BK⟩ := var3f wr 26 #[.int .i64 0, .int .i64 0, .slice none 0 0] #[.int .i64 mr, .int .i64 mc, .slice ma mn mz]
                  generalize hwe2 : wr.alloc (.cells #[.int .i64 0, .int .i64 0, .slice none 0 0] 26) = we2 at *
                  generalize hwf2 : we2.setRow wr.heap.size #[.int .i64 mr, .int .i64 mc, .slice ma mn mz] = wk at *
                  replace X0 := X0.below BK
                  replace X1 := X1.below BK
                  replace XB := XB.below BK
                  replace XM := XM.below BK
                  have DK := below_then DV BK
                  clear BK
                  have a1 : wk.cell? ⟨w.heap.size, 1, none⟩ = some (.int .i64 D) := X0.cell 1 rfl
                  have m0 : wk.cell? ⟨wr.heap.size, 0, none⟩ = some (.int .i64 mr) := XK.cell 0 rfl
                  have m1 : wk.cell? ⟨wr.heap.size, 1, none⟩ = some (.int .i64 mc) := XK.cell 1 rfl
                  have m2 : wk.cell? ⟨wr.heap.size, 2, none⟩ = some (.slice ma mn mz) := XK.cell 2 rfl
                  go_upto_region 11 with (first | (refine wpList_load_mid rfl 26 _ rfl wf.heap.size (j * 3) rfl [.int .i64 mr, .int .i64 mc, .slice ma mn mz] _ rj Tryz.underlying26 rfl (by kernel_rfl) ?_) | (refine wpList_store_row rfl 26 _ _ rfl wr.heap.size #[.int .i64 mr, .int .i64 mc, .slice ma mn mz] rfl rfl 26 _ XE2 (by kernel_rfl) rfl (by simp [Value.oneCell']) ?_; rw [hwf2]))
                  clear hwe2 hwf2 XE2 rj
                  cases gj with
                  | false =>
                    clear CM
                    go_wp2_with fail
                    clear a1 m0 m1 m2
                    go_roundg (4 - (j + 1))
                    case measure => omega
                    case rel => exact ⟨j + 1, by omega, rfl, by go_num, by rw [HT.out, ← Bool.and_assoc, HGJ.out]; rfl, X0, X1, XB, XM, DK⟩
                  | true =>
                    go_wp2_with fail
                    refine (CM wk).mono ?_
                    rintro e wy ⟨rfl, BY⟩
                    replace X0 := X0.below BY
                    replace X1 := X1.below BY
                    replace XB := XB.below BY
                    replace XM := XM.below BY
                    have DY := below_then DK BY
                    clear a1 m0 m1 m2 CM BY DK
                    go_wp2_with fail
                    go_roundg (4 - (j + 1))
                    case measure => omega
                    case rel => exact ⟨j + 1, by omega, rfl, by go_num, by rw [HT.out, ← Bool.and_assoc, HGJ.out]; rfl, X0, X1, XB, XM, DY⟩
                · obtain rfl : j = 4 := by omega
                  have HQ4 : Hid ((g && (([⟨vqr, vqc, ⟨vqa, vqn, vqz⟩⟩, ⟨vkr, vkc, ⟨vka, vkn, vkz⟩⟩, ⟨vvr, vvc, ⟨vva, vvn, vvz⟩⟩, ⟨vor, voc, ⟨voa, von, voz⟩⟩] : List Mt).take 4).all fun m => sidesB m D D) = (g && m4)) := by show _ = _; rw [List.take_of_length_le (by simp), HM4.out]
                  generalize (g && (([⟨vqr, vqc, ⟨vqa, vqn, vqz⟩⟩, ⟨vkr, vkc, ⟨vka, vkn, vkz⟩⟩, ⟨vvr, vvc, ⟨vva, vvn, vvz⟩⟩, ⟨vor, voc, ⟨voa, von, voz⟩⟩] : List Mt).take 4).all fun m => sidesB m D D) = q4 at *
                  have HE : Hid ((g && bkB D H ⟨⟨vfa, vfn, vfz⟩, ⟨vqr, vqc, ⟨vqa, vqn, vqz⟩⟩, ⟨vkr, vkc, ⟨vka, vkn, vkz⟩⟩, ⟨vvr, vvc, ⟨vva, vvn, vvz⟩⟩, ⟨vor, voc, ⟨voa, von, voz⟩⟩, ⟨vsa, vsn, vsz⟩, ⟨vur, vuc, ⟨vua, vun, vuz⟩⟩, ⟨vdr, vdc, ⟨vda, vdn, vdz⟩⟩⟩) = (q4 && u1 && d1 && decide ((vfn : Int) = D) && decide ((vsn : Int) = D))) := by show _ = _; rw [HBK.out, HQ4.out]; simp only [Bool.and_assoc]
                  clear HBK HQ4 HM HM4 XM
                  have a1 : wr.cell? ⟨w.heap.size, 1, none⟩ = some (.int .i64 D) := X0.cell 1 rfl
                  have a3 : wr.cell? ⟨w.heap.size, 3, none⟩ = some (.int .i64 H) := X0.cell 3 rfl
                  have x14 : wr.cell? ⟨wo.heap.size, 14, none⟩ = some (.int .i64 vur) := XB.cell 14 rfl
                  have x15 : wr.cell? ⟨wo.heap.size, 15, none⟩ = some (.int .i64 vuc) := XB.cell 15 rfl
                  have x16 : wr.cell? ⟨wo.heap.size, 16, none⟩ = some (.slice vua vun vuz) := XB.cell 16 rfl
                  cases q4 with
                  | false =>
                    clear CU CD
                    go_wp2_with fail
                    clear a1 a3 x14 x15 x16
                    go_roundg (bn - (k + 1))
                    case measure => omega
                    case rel => exact ⟨k + 1, by omega, rfl, by go_num, by rw [HSN.out, HE.out]; rfl, X0, X1, DV⟩
                  | true =>
                    go_wp2_with fail
                    refine (CU wr).mono ?_
                    rintro e wy ⟨rfl, BY⟩
                    replace X0 := X0.below BY
                    replace X1 := X1.below BY
                    replace XB := XB.below BY
                    have DY := below_then DV BY
                    clear a1 a3 x14 x15 x16 CU BY DV
                    have a1 : wy.cell? ⟨w.heap.size, 1, none⟩ = some (.int .i64 D) := X0.cell 1 rfl
                    have a3 : wy.cell? ⟨w.heap.size, 3, none⟩ = some (.int .i64 H) := X0.cell 3 rfl
                    have x17 : wy.cell? ⟨wo.heap.size, 17, none⟩ = some (.int .i64 vdr) := XB.cell 17 rfl
                    have x18 : wy.cell? ⟨wo.heap.size, 18, none⟩ = some (.int .i64 vdc) := XB.cell 18 rfl
                    have x19 : wy.cell? ⟨wo.heap.size, 19, none⟩ = some (.slice vda vdn vdz) := XB.cell 19 rfl
                    cases u1 with
                    | false =>
                      clear CD
                      go_wp2_with fail
                      clear a1 a3 x17 x18 x19
                      go_roundg (bn - (k + 1))
                      case measure => omega
                      case rel => exact ⟨k + 1, by omega, rfl, by go_num, by rw [HSN.out, HE.out]; rfl, X0, X1, DY⟩
                    | true =>
                      go_wp2_with fail
                      refine (CD wy).mono ?_
                      rintro e wz ⟨rfl, BY⟩
                      replace X0 := X0.below BY
                      replace X1 := X1.below BY
                      replace XB := XB.below BY
                      have DZ := below_then DY BY
                      clear a1 a3 x17 x18 x19 CD BY DY
                      have a1 : wz.cell? ⟨w.heap.size, 1, none⟩ = some (.int .i64 D) := X0.cell 1 rfl
                      have x0 : wz.cell? ⟨wo.heap.size, 0, none⟩ = some (.slice vfa vfn vfz) := XB.cell 0 rfl
                      have x13 : wz.cell? ⟨wo.heap.size, 13, none⟩ = some (.slice vsa vsn vsz) := XB.cell 13 rfl
                      cases d1 with
                      | false =>
                        go_wp2_with fail
                        clear a1 x0 x13
                        go_roundg (bn - (k + 1))
                        case measure => omega
                        case rel => exact ⟨k + 1, by omega, rfl, by go_num, by rw [HSN.out, HE.out]; rfl, X0, X1, DZ⟩
                      | true =>
                        by_cases h1 : (vfn : Int) = D
                        · have h2 : ((vfn : Int) == D) = true := by simpa using h1
                          have HE2 : Hid ((true && true && true && decide ((vfn : Int) = D) && decide ((vsn : Int) = D)) = ((vsn : Int) == D)) := by show _ = _; rw [show decide ((vfn : Int) = D) = true from decide_eq_true h1]; simp; rfl
                          clear h1
                          go_wp2_with fail
                          clear a1 x0 x13 h2
                          go_roundg (bn - (k + 1))
                          case measure => omega
                          case rel => exact ⟨k + 1, by omega, rfl, by go_num, by rw [HSN.out, HE.out, HE2.out], X0, X1, DZ⟩
                        · have h2 : ((vfn : Int) == D) = false := by simpa using h1
                          have HE2 : Hid ((true && true && true && decide ((vfn : Int) = D) && decide ((vsn : Int) = D)) = false) := by show _ = _; rw [show decide ((vfn : Int) = D) = false from decide_eq_false h1]; rfl
                          clear h1
                          go_wp2_with fail
                          clear a1 x0 x13 h2
                          go_roundg (bn - (k + 1))
                          case measure => omega
                          case rel => exact ⟨k + 1, by omega, rfl, by go_num, by rw [HSN.out, HE.out, HE2.out], X0, X1, DZ⟩
            · obtain rfl : k = bn := by omega
              have HZ : Hid (xf = (true && (bs.take k).all (bkB D H))) := by show _ = _; rw [HXF.out, List.take_of_length_le (by have := HBL.out; omega)]
              generalize (true && (bs.take k).all (bkB D H)) = z at *
              cases z with
              | false =>
                go_wp2_with fail
                go_ret
                exact ⟨by rw [HR.out, HZ.out]; rfl, DR⟩
              | true =>
                go_wp2_with fail
                go_ret
                exact ⟨by rw [HR.out, HZ.out]; rfl, DR⟩
        · have hb2 : ((bn : Int) == L) = false := by simpa using hbl
          have HXF : Hid (xf = (false && bs.all (bkB D H))) := by show _ = _; rw [HF.out, show decide ((bn : Int) = L) = false from decide_eq_false hbl]; simp
          clear HF hl hbl
          go_wp2_with fail
          clear a1 a4 b3 b4 hl2 hb2
          go_loopg [6, 51] bn (fun r g6 i wr => ∃ k : Nat, k ≤ bn ∧ r = bn - k ∧ i = .int .i64 (k : Int) ∧ g6 = .bool (false && (bs.take k).all (bkB D H)) ∧ Blk wr w.heap.size 23 #[.int .i64 V, .int .i64 D, .int .i64 Hd, .int .i64 H, .int .i64 L] ∧ Blk wr (w0.heap.size) 38 #[.int .i64 er, .int .i64 ec, .slice ea en ez, .slice ba bn bz, .slice la ln lz, .int .i64 gr, .int .i64 gc, .slice ga gn gz] ∧ Below w.heap.size w wr)
          case atStart => exact ⟨0, by omega, by omega, rfl, by simp, X0, X1, D4⟩
          case round =>
            clear X0 X1 D4
            obtain ⟨k, hk, rfl, rfl, rfl, X0, X1, DR⟩ := hrel
            rename World => wo
            by_cases hlt : k < bn
            · obtain ⟨xx, hxx⟩ : ∃ x, bs[k]? = some x := ⟨_, List.getElem?_eq_getElem (show k < bs.length by have := HBL.out; omega)⟩
              obtain ⟨gb, ob, eba, hcb⟩ := (HB.out wo DR).cells (by show 0 < bn; omega)
              have eba' : ba = some ⟨gb, ob, none⟩ := eba
              subst eba'
              have r0 := hcb k xx hxx
              have hok := (HB.out wo DR).ok xx (List.mem_of_getElem? hxx)
              have HSN : Hid ((bs.take (k + 1)).all (bkB D H) = ((bs.take k).all (bkB D H) && bkB D H xx)) := all_take hxx
              generalize (bs.take k).all (bkB D H) = p0 at *
              obtain ⟨g, hg⟩ : ∃ g, (false && p0) = g := ⟨_, rfl⟩
              have HG : Hid ((false && p0) = g) := hg
              rw [hg]
              clear hg
              obtain ⟨⟨vfa, vfn, vfz⟩, ⟨vqr, vqc, ⟨vqa, vqn, vqz⟩⟩, ⟨vkr, vkc, ⟨vka, vkn, vkz⟩⟩, ⟨vvr, vvc, ⟨vva, vvn, vvz⟩⟩, ⟨vor, voc, ⟨voa, von, voz⟩⟩, ⟨vsa, vsn, vsz⟩, ⟨vur, vuc, ⟨vua, vun, vuz⟩⟩, ⟨vdr, vdc, ⟨vda, vdn, vdz⟩⟩⟩ := xx
              rw [show Bk.cells ⟨⟨vfa, vfn, vfz⟩, ⟨vqr, vqc, ⟨vqa, vqn, vqz⟩⟩, ⟨vkr, vkc, ⟨vka, vkn, vkz⟩⟩, ⟨vvr, vvc, ⟨vva, vvn, vvz⟩⟩, ⟨vor, voc, ⟨voa, von, voz⟩⟩, ⟨vsa, vsn, vsz⟩, ⟨vur, vuc, ⟨vua, vun, vuz⟩⟩, ⟨vdr, vdc, ⟨vda, vdn, vdz⟩⟩⟩ = #[.slice vfa vfn vfz, .int .i64 vqr, .int .i64 vqc, .slice vqa vqn vqz, .int .i64 vkr, .int .i64 vkc, .slice vka vkn vkz, .int .i64 vvr, .int .i64 vvc, .slice vva vvn vvz, .int .i64 vor, .int .i64 voc, .slice voa von voz, .slice vsa vsn vsz, .int .i64 vur, .int .i64 vuc, .slice vua vun vuz, .int .i64 vdr, .int .i64 vdc, .slice vda vdn vdz] from rfl] at r0
              have HSN2 : Hid ((false && (bs.take (k + 1)).all (bkB D H)) = (g && bkB D H ⟨⟨vfa, vfn, vfz⟩, ⟨vqr, vqc, ⟨vqa, vqn, vqz⟩⟩, ⟨vkr, vkc, ⟨vka, vkn, vkz⟩⟩, ⟨vvr, vvc, ⟨vva, vvn, vvz⟩⟩, ⟨vor, voc, ⟨voa, von, voz⟩⟩, ⟨vsa, vsn, vsz⟩, ⟨vur, vuc, ⟨vua, vun, vuz⟩⟩, ⟨vdr, vdc, ⟨vda, vdn, vdz⟩⟩⟩)) := by show _ = _; rw [HSN.out, ← Bool.and_assoc, HG.out]
              clear HSN HG
              have HSN := HSN2
              clear HSN2
              have HBK : Hid (bkB D H ⟨⟨vfa, vfn, vfz⟩, ⟨vqr, vqc, ⟨vqa, vqn, vqz⟩⟩, ⟨vkr, vkc, ⟨vka, vkn, vkz⟩⟩, ⟨vvr, vvc, ⟨vva, vvn, vvz⟩⟩, ⟨vor, voc, ⟨voa, von, voz⟩⟩, ⟨vsa, vsn, vsz⟩, ⟨vur, vuc, ⟨vua, vun, vuz⟩⟩, ⟨vdr, vdc, ⟨vda, vdn, vdz⟩⟩⟩ = ((sidesB ⟨vqr, vqc, ⟨vqa, vqn, vqz⟩⟩ D D && sidesB ⟨vkr, vkc, ⟨vka, vkn, vkz⟩⟩ D D && sidesB ⟨vvr, vvc, ⟨vva, vvn, vvz⟩⟩ D D && sidesB ⟨vor, voc, ⟨voa, von, voz⟩⟩ D D) && sidesB ⟨vur, vuc, ⟨vua, vun, vuz⟩⟩ H D && sidesB ⟨vdr, vdc, ⟨vda, vdn, vdz⟩⟩ D H && decide ((vfn : Int) = D) && decide ((vsn : Int) = D))) := by show _ = _; rw [bk_order]; rfl
              have CU := fun wv => rfits6_any ⟨vur, vuc, ⟨vua, vun, vuz⟩⟩ H D wv hok.u
              have CD := fun wv => rfits6_any ⟨vdr, vdc, ⟨vda, vdn, vdz⟩⟩ D H wv hok.d
              have HM : Hid (∀ (j : Nat) (m : Mt), ([⟨vqr, vqc, ⟨vqa, vqn, vqz⟩⟩, ⟨vkr, vkc, ⟨vka, vkn, vkz⟩⟩, ⟨vvr, vvc, ⟨vva, vvn, vvz⟩⟩, ⟨vor, voc, ⟨voa, von, voz⟩⟩] : List Mt)[j]? = some m → m.Ok) := fun j m hm => by
                have := List.mem_of_getElem? hm
                simp only [List.mem_cons, List.not_mem_nil, or_false] at this
                rcases this with rfl | rfl | rfl | rfl
                · exact hok.q
                · exact hok.k
                · exact hok.v
                · exact hok.o
              have hfn : vfn ≤ 9223372036854775807 := hok.f
              have hsn : vsn ≤ 9223372036854775807 := hok.s
              have HM4 : Hid (([⟨vqr, vqc, ⟨vqa, vqn, vqz⟩⟩, ⟨vkr, vkc, ⟨vka, vkn, vkz⟩⟩, ⟨vvr, vvc, ⟨vva, vvn, vvz⟩⟩, ⟨vor, voc, ⟨voa, von, voz⟩⟩] : List Mt).all (fun m => sidesB m D D) = (sidesB ⟨vqr, vqc, ⟨vqa, vqn, vqz⟩⟩ D D && sidesB ⟨vkr, vkc, ⟨vka, vkn, vkz⟩⟩ D D && sidesB ⟨vvr, vvc, ⟨vva, vvn, vvz⟩⟩ D D && sidesB ⟨vor, voc, ⟨voa, von, voz⟩⟩ D D)) := by show _ = _; simp [Bool.and_assoc]
              simp only at CU CD
              clear hok hcb hxx eba
              generalize sidesB ⟨vur, vuc, ⟨vua, vun, vuz⟩⟩ H D = u1 at *
              generalize sidesB ⟨vdr, vdc, ⟨vda, vdn, vdz⟩⟩ D H = d1 at *
              generalize (sidesB ⟨vqr, vqc, ⟨vqa, vqn, vqz⟩⟩ D D && sidesB ⟨vkr, vkc, ⟨vka, vkn, vkz⟩⟩ D D && sidesB ⟨vvr, vvc, ⟨vva, vvn, vvz⟩⟩ D D && sidesB ⟨vor, voc, ⟨voa, von, voz⟩⟩ D D) = m4 at *
              have szr := DR.size
              have z1 := X1.lt
              obtain ⟨XE, XB, BF⟩ := var3f wo 61 #[.slice none 0 0, .int .i64 0, .int .i64 0, .slice none 0 0, .int .i64 0, .int .i64 0, .slice none 0 0, .int .i64 0, .int .i64 0, .slice none 0 0, .int .i64 0, .int .i64 0, .slice none 0 0, .slice none 0 0, .int .i64 0, .int .i64 0, .slice none 0 0, .int .i64 0, .int .i64 0, .slice none 0 0] #[.slice vfa vfn vfz, .int .i64 vqr, .int .i64 vqc, .slice vqa vqn vqz, .int .i64 vkr, .int .i64 vkc, .slice vka vkn vkz, .int .i64 vvr, .int .i64 vvc, .slice vva vvn vvz, .int .i64 vor, .int .i64 voc, .slice voa von voz, .slice vsa vsn vsz, .int .i64 vur, .int .i64 vuc, .slice vua vun vuz, .int .i64 vdr, .int .i64 vdc, .slice vda vdn vdz]
              have hone : Array.all (#[.slice vfa vfn vfz, .int .i64 vqr, .int .i64 vqc, .slice vqa vqn vqz, .int .i64 vkr, .int .i64 vkc, .slice vka vkn vkz, .int .i64 vvr, .int .i64 vvc, .slice vva vvn vvz, .int .i64 vor, .int .i64 voc, .slice voa von voz, .slice vsa vsn vsz, .int .i64 vur, .int .i64 vuc, .slice vua vun vuz, .int .i64 vdr, .int .i64 vdc, .slice vda vdn vdz] : Array Value) (fun v => v.oneCell') = true := by simp [Value.oneCell']
              generalize hwe : wo.alloc (.cells #[.slice none 0 0, .int .i64 0, .int .i64 0, .slice none 0 0, .int .i64 0, .int .i64 0, .slice none 0 0, .int .i64 0, .int .i64 0, .slice none 0 0, .int .i64 0, .int .i64 0, .slice none 0 0, .slice none 0 0, .int .i64 0, .int .i64 0, .slice none 0 0, .int .i64 0, .int .i64 0, .slice none 0 0] 61) = we at *
              generalize hwf : we.setRow wo.heap.size #[.slice vfa vfn vfz, .int .i64 vqr, .int .i64 vqc, .slice vqa vqn vqz, .int .i64 vkr, .int .i64 vkc, .slice vka vkn vkz, .int .i64 vvr, .int .i64 vvc, .slice vva vvn vvz, .int .i64 vor, .int .i64 voc, .slice voa von voz, .slice vsa vsn vsz, .int .i64 vur, .int .i64 vuc, .slice vua vun vuz, .int .i64 vdr, .int .i64 vdc, .slice vda vdn vdz] = wf at *
              have DF := below_then DR BF
              replace X0 := X0.below BF
              replace X1 := X1.below BF
              clear BF
              have x1 : wf.cell? ⟨wo.heap.size, 1, none⟩ = some (.int .i64 vqr) := XB.cell 1 rfl
              have x2 : wf.cell? ⟨wo.heap.size, 2, none⟩ = some (.int .i64 vqc) := XB.cell 2 rfl
              have x3 : wf.cell? ⟨wo.heap.size, 3, none⟩ = some (.slice vqa vqn vqz) := XB.cell 3 rfl
              have x4 : wf.cell? ⟨wo.heap.size, 4, none⟩ = some (.int .i64 vkr) := XB.cell 4 rfl
              have x5 : wf.cell? ⟨wo.heap.size, 5, none⟩ = some (.int .i64 vkc) := XB.cell 5 rfl
              have x6 : wf.cell? ⟨wo.heap.size, 6, none⟩ = some (.slice vka vkn vkz) := XB.cell 6 rfl
              have x7 : wf.cell? ⟨wo.heap.size, 7, none⟩ = some (.int .i64 vvr) := XB.cell 7 rfl
              have x8 : wf.cell? ⟨wo.heap.size, 8, none⟩ = some (.int .i64 vvc) := XB.cell 8 rfl
              have x9 : wf.cell? ⟨wo.heap.size, 9, none⟩ = some (.slice vva vvn vvz) := XB.cell 9 rfl
              have x10 : wf.cell? ⟨wo.heap.size, 10, none⟩ = some (.int .i64 vor) := XB.cell 10 rfl
              have x11 : wf.cell? ⟨wo.heap.size, 11, none⟩ = some (.int .i64 voc) := XB.cell 11 rfl
              have x12 : wf.cell? ⟨wo.heap.size, 12, none⟩ = some (.slice voa von voz) := XB.cell 12 rfl
              have BM : Below wf.heap.size wf (wf.alloc (.cells #[.int .i64 vqr, .int .i64 vqc, .slice vqa vqn vqz, .int .i64 vkr, .int .i64 vkc, .slice vka vkn vkz, .int .i64 vvr, .int .i64 vvc, .slice vva vvn vvz, .int .i64 vor, .int .i64 voc, .slice voa von voz] 26)) := (Below.refl _ _).alloc (Nat.le_refl _) _
              have XM := blk_new wf 26 #[.int .i64 vqr, .int .i64 vqc, .slice vqa vqn vqz, .int .i64 vkr, .int .i64 vkc, .slice vka vkn vkz, .int .i64 vvr, .int .i64 vvc, .slice vva vvn vvz, .int .i64 vor, .int .i64 voc, .slice voa von voz]
              go_upto_region 9 with (first | (refine wpList_load_mid rfl 61 _ rfl gb (ob + k * 20) rfl (#[.slice vfa vfn vfz, .int .i64 vqr, .int .i64 vqc, .slice vqa vqn vqz, .int .i64 vkr, .int .i64 vkc, .slice vka vkn vkz, .int .i64 vvr, .int .i64 vvc, .slice vva vvn vvz, .int .i64 vor, .int .i64 voc, .slice voa von voz, .slice vsa vsn vsz, .int .i64 vur, .int .i64 vuc, .slice vua vun vuz, .int .i64 vdr, .int .i64 vdc, .slice vda vdn vdz] : Array Value).toList _ r0 Tryz.underlying61 rfl (by exact Tryz.infoRB1) ?_) | (refine wpList_store_row rfl 61 _ _ rfl wo.heap.size #[.slice vfa vfn vfz, .int .i64 vqr, .int .i64 vqc, .slice vqa vqn vqz, .int .i64 vkr, .int .i64 vkc, .slice vka vkn vkz, .int .i64 vvr, .int .i64 vvc, .slice vva vvn vvz, .int .i64 vor, .int .i64 voc, .slice voa von voz, .slice vsa vsn vsz, .int .i64 vur, .int .i64 vuc, .slice vua vun vuz, .int .i64 vdr, .int .i64 vdc, .slice vda vdn vdz] rfl rfl 61 _ XE (by exact Tryz.infoRB1) rfl hone ?_; rw [hwf]))
              clear hwe hwf XE r0 hone x1 x2 x3 x4 x5 x6 x7 x8 x9 x10 x11 x12
              generalize hwm : wf.alloc (.cells #[.int .i64 vqr, .int .i64 vqc, .slice vqa vqn vqz, .int .i64 vkr, .int .i64 vkc, .slice vka vkn vkz, .int .i64 vvr, .int .i64 vvc, .slice vva vvn vvz, .int .i64 vor, .int .i64 voc, .slice voa von voz] 26) = wm at *
              replace X0 := X0.below BM
              replace X1 := X1.below BM
              replace XB := XB.below BM
              have DM := below_then DF BM
              clear BM hwm
              go_loopg [6, 65] 4 (fun r g6 i wv => ∃ j : Nat, j ≤ 4 ∧ r = 4 - j ∧ i = .int .i64 (j : Int) ∧ g6 = .bool (g && (([⟨vqr, vqc, ⟨vqa, vqn, vqz⟩⟩, ⟨vkr, vkc, ⟨vka, vkn, vkz⟩⟩, ⟨vvr, vvc, ⟨vva, vvn, vvz⟩⟩, ⟨vor, voc, ⟨voa, von, voz⟩⟩] : List Mt).take j).all fun m => sidesB m D D) ∧ Blk wv w.heap.size 23 #[.int .i64 V, .int .i64 D, .int .i64 Hd, .int .i64 H, .int .i64 L] ∧ Blk wv (w0.heap.size) 38 #[.int .i64 er, .int .i64 ec, .slice ea en ez, .slice (some ⟨gb, ob, none⟩) bn bz, .slice la ln lz, .int .i64 gr, .int .i64 gc, .slice ga gn gz] ∧ Blk wv wo.heap.size 61 #[.slice vfa vfn vfz, .int .i64 vqr, .int .i64 vqc, .slice vqa vqn vqz, .int .i64 vkr, .int .i64 vkc, .slice vka vkn vkz, .int .i64 vvr, .int .i64 vvc, .slice vva vvn vvz, .int .i64 vor, .int .i64 voc, .slice voa von voz, .slice vsa vsn vsz, .int .i64 vur, .int .i64 vuc, .slice vua vun vuz, .int .i64 vdr, .int .i64 vdc, .slice vda vdn vdz] ∧ Blk wv wf.heap.size 26 #[.int .i64 vqr, .int .i64 vqc, .slice vqa vqn vqz, .int .i64 vkr, .int .i64 vkc, .slice vka vkn vkz, .int .i64 vvr, .int .i64 vvc, .slice vva vvn vvz, .int .i64 vor, .int .i64 voc, .slice voa von voz] ∧ Below w.heap.size w wv)
              case atStart => exact ⟨0, by omega, by omega, rfl, by simp, X0, X1, XB, XM, DM⟩
              case round =>
                clear X0 X1 XB XM DM
                obtain ⟨j, hj, rfl, rfl, rfl, X0, X1, XB, XM, DV⟩ := hrel
                by_cases hj4 : j < 4
                · obtain ⟨m, hm⟩ : ∃ m, ([⟨vqr, vqc, ⟨vqa, vqn, vqz⟩⟩, ⟨vkr, vkc, ⟨vka, vkn, vkz⟩⟩, ⟨vvr, vvc, ⟨vva, vvn, vvz⟩⟩, ⟨vor, voc, ⟨voa, von, voz⟩⟩] : List Mt)[j]? = some m := ⟨_, List.getElem?_eq_getElem (show j < ([⟨vqr, vqc, ⟨vqa, vqn, vqz⟩⟩, ⟨vkr, vkc, ⟨vka, vkn, vkz⟩⟩, ⟨vvr, vvc, ⟨vva, vvn, vvz⟩⟩, ⟨vor, voc, ⟨voa, von, voz⟩⟩] : List Mt).length from hj4)⟩
                  have hmo := HM.out j m hm
                  have rj : wr.rangeAt wf.heap.size (j * 3) [.int .i64 m.r, .int .i64 m.c, .slice m.d.ao m.d.n m.d.c] := mat4_range XM hm
                  have HT : Hid (((([⟨vqr, vqc, ⟨vqa, vqn, vqz⟩⟩, ⟨vkr, vkc, ⟨vka, vkn, vkz⟩⟩, ⟨vvr, vvc, ⟨vva, vvn, vvz⟩⟩, ⟨vor, voc, ⟨voa, von, voz⟩⟩] : List Mt).take (j + 1)).all fun m => sidesB m D D) = (((([⟨vqr, vqc, ⟨vqa, vqn, vqz⟩⟩, ⟨vkr, vkc, ⟨vka, vkn, vkz⟩⟩, ⟨vvr, vvc, ⟨vva, vvn, vvz⟩⟩, ⟨vor, voc, ⟨voa, von, voz⟩⟩] : List Mt).take j).all fun m => sidesB m D D) && sidesB m D D)) := by
                    show _ = _
                    rw [List.take_add_one, hm, List.all_append]; simp
                  generalize ((([⟨vqr, vqc, ⟨vqa, vqn, vqz⟩⟩, ⟨vkr, vkc, ⟨vka, vkn, vkz⟩⟩, ⟨vvr, vvc, ⟨vva, vvn, vvz⟩⟩, ⟨vor, voc, ⟨voa, von, voz⟩⟩] : List Mt).take j).all fun m => sidesB m D D) = pj at *
                  obtain ⟨gj, hgj⟩ : ∃ gj, (g && pj) = gj := ⟨_, rfl⟩
                  have HGJ : Hid ((g && pj) = gj) := hgj
                  rw [hgj]
                  clear hgj hm
                  obtain ⟨mr, mc, ⟨ma, mn, mz⟩⟩ := m
                  have CM := fun wx => rfits6_any ⟨mr, mc, ⟨ma, mn, mz⟩⟩ D D wx hmo
                  simp only at CM rj
                  generalize sidesB ⟨mr, mc, ⟨ma, mn, mz⟩⟩ D D = sm at *
                  obtain ⟨XE2, XK, BK⟩ := var3f wr 26 #[.int .i64 0, .int .i64 0, .slice none 0 0] #[.int .i64 mr, .int .i64 mc, .slice ma mn mz]
                  generalize hwe2 : wr.alloc (.cells #[.int .i64 0, .int .i64 0, .slice none 0 0] 26) = we2 at *
                  generalize hwf2 : we2.setRow wr.heap.size #[.int .i64 mr, .int .i64 mc, .slice ma mn mz] = wk at *
                  replace X0 := X0.below BK
                  replace X1 := X1.below BK
                  replace XB := XB.below BK
                  replace XM := XM.below BK
                  have DK := below_then DV BK
                  clear BK
                  have a1 : wk.cell? ⟨w.heap.size, 1, none⟩ = some (.int .i64 D) := X0.cell 1 rfl
                  have m0 : wk.cell? ⟨wr.heap.size, 0, none⟩ = some (.int .i64 mr) := XK.cell 0 rfl
                  have m1 : wk.cell? ⟨wr.heap.size, 1, none⟩ = some (.int .i64 mc) := XK.cell 1 rfl
                  have m2 : wk.cell? ⟨wr.heap.size, 2, none⟩ = some (.slice ma mn mz) := XK.cell 2 rfl
                  go_upto_region 11 with (first | (refine wpList_load_mid rfl 26 _ rfl wf.heap.size (j * 3) rfl [.int .i64 mr, .int .i64 mc, .slice ma mn mz] _ rj Tryz.underlying26 rfl (by kernel_rfl) ?_) | (refine wpList_store_row rfl 26 _ _ rfl wr.heap.size #[.int .i64 mr, .int .i64 mc, .slice ma mn mz] rfl rfl 26 _ XE2 (by kernel_rfl) rfl (by simp [Value.oneCell']) ?_; rw [hwf2]))
                  clear hwe2 hwf2 XE2 rj
                  cases gj with
                  | false =>
                    clear CM
                    go_wp2_with fail
                    clear a1 m0 m1 m2
                    go_roundg (4 - (j + 1))
                    case measure => omega
                    case rel => exact ⟨j + 1, by omega, rfl, by go_num, by rw [HT.out, ← Bool.and_assoc, HGJ.out]; rfl, X0, X1, XB, XM, DK⟩
                  | true =>
                    go_wp2_with fail
                    refine (CM wk).mono ?_
                    rintro e wy ⟨rfl, BY⟩
                    replace X0 := X0.below BY
                    replace X1 := X1.below BY
                    replace XB := XB.below BY
                    replace XM := XM.below BY
                    have DY := below_then DK BY
                    clear a1 m0 m1 m2 CM BY DK
                    go_wp2_with fail
                    go_roundg (4 - (j + 1))
                    case measure => omega
                    case rel => exact ⟨j + 1, by omega, rfl, by go_num, by rw [HT.out, ← Bool.and_assoc, HGJ.out]; rfl, X0, X1, XB, XM, DY⟩
                · obtain rfl : j = 4 := by omega
                  have HQ4 : Hid ((g && (([⟨vqr, vqc, ⟨vqa, vqn, vqz⟩⟩, ⟨vkr, vkc, ⟨vka, vkn, vkz⟩⟩, ⟨vvr, vvc, ⟨vva, vvn, vvz⟩⟩, ⟨vor, voc, ⟨voa, von, voz⟩⟩] : List Mt).take 4).all fun m => sidesB m D D) = (g && m4)) := by show _ = _; rw [List.take_of_length_le (by simp), HM4.out]
                  generalize (g && (([⟨vqr, vqc, ⟨vqa, vqn, vqz⟩⟩, ⟨vkr, vkc, ⟨vka, vkn, vkz⟩⟩, ⟨vvr, vvc, ⟨vva, vvn, vvz⟩⟩, ⟨vor, voc, ⟨voa, von, voz⟩⟩] : List Mt).take 4).all fun m => sidesB m D D) = q4 at *
                  have HE : Hid ((g && bkB D H ⟨⟨vfa, vfn, vfz⟩, ⟨vqr, vqc, ⟨vqa, vqn, vqz⟩⟩, ⟨vkr, vkc, ⟨vka, vkn, vkz⟩⟩, ⟨vvr, vvc, ⟨vva, vvn, vvz⟩⟩, ⟨vor, voc, ⟨voa, von, voz⟩⟩, ⟨vsa, vsn, vsz⟩, ⟨vur, vuc, ⟨vua, vun, vuz⟩⟩, ⟨vdr, vdc, ⟨vda, vdn, vdz⟩⟩⟩) = (q4 && u1 && d1 && decide ((vfn : Int) = D) && decide ((vsn : Int) = D))) := by show _ = _; rw [HBK.out, HQ4.out]; simp only [Bool.and_assoc]
                  clear HBK HQ4 HM HM4 XM
                  have a1 : wr.cell? ⟨w.heap.size, 1, none⟩ = some (.int .i64 D) := X0.cell 1 rfl
                  have a3 : wr.cell? ⟨w.heap.size, 3, none⟩ = some (.int .i64 H) := X0.cell 3 rfl
                  have x14 : wr.cell? ⟨wo.heap.size, 14, none⟩ = some (.int .i64 vur) := XB.cell 14 rfl
                  have x15 : wr.cell? ⟨wo.heap.size, 15, none⟩ = some (.int .i64 vuc) := XB.cell 15 rfl
                  have x16 : wr.cell? ⟨wo.heap.size, 16, none⟩ = some (.slice vua vun vuz) := XB.cell 16 rfl
                  cases q4 with
                  | false =>
                    clear CU CD
                    go_wp2_with fail
                    clear a1 a3 x14 x15 x16
                    go_roundg (bn - (k + 1))
                    case measure => omega
                    case rel => exact ⟨k + 1, by omega, rfl, by go_num, by rw [HSN.out, HE.out]; rfl, X0, X1, DV⟩
                  | true =>
                    go_wp2_with fail
                    refine (CU wr).mono ?_
                    rintro e wy ⟨rfl, BY⟩
                    replace X0 := X0.below BY
                    replace X1 := X1.below BY
                    replace XB := XB.below BY
                    have DY := below_then DV BY
                    clear a1 a3 x14 x15 x16 CU BY DV
                    have a1 : wy.cell? ⟨w.heap.size, 1, none⟩ = some (.int .i64 D) := X0.cell 1 rfl
                    have a3 : wy.cell? ⟨w.heap.size, 3, none⟩ = some (.int .i64 H) := X0.cell 3 rfl
                    have x17 : wy.cell? ⟨wo.heap.size, 17, none⟩ = some (.int .i64 vdr) := XB.cell 17 rfl
                    have x18 : wy.cell? ⟨wo.heap.size, 18, none⟩ = some (.int .i64 vdc) := XB.cell 18 rfl
                    have x19 : wy.cell? ⟨wo.heap.size, 19, none⟩ = some (.slice vda vdn vdz) := XB.cell 19 rfl
                    cases u1 with
                    | false =>
                      clear CD
                      go_wp2_with fail
                      clear a1 a3 x17 x18 x19
                      go_roundg (bn - (k + 1))
                      case measure => omega
                      case rel => exact ⟨k + 1, by omega, rfl, by go_num, by rw [HSN.out, HE.out]; rfl, X0, X1, DY⟩
                    | true =>
                      go_wp2_with fail
                      refine (CD wy).mono ?_
                      rintro e wz ⟨rfl, BY⟩
                      replace X0 := X0.below BY
                      replace X1 := X1.below BY
                      replace XB := XB.below BY
                      have DZ := below_then DY BY
                      clear a1 a3 x17 x18 x19 CD BY DY
                      have a1 : wz.cell? ⟨w.heap.size, 1, none⟩ = some (.int .i64 D) := X0.cell 1 rfl
                      have x0 : wz.cell? ⟨wo.heap.size, 0, none⟩ = some (.slice vfa vfn vfz) := XB.cell 0 rfl
                      have x13 : wz.cell? ⟨wo.heap.size, 13, none⟩ = some (.slice vsa vsn vsz) := XB.cell 13 rfl
                      cases d1 with
                      | false =>
                        go_wp2_with fail
                        clear a1 x0 x13
                        go_roundg (bn - (k + 1))
                        case measure => omega
                        case rel => exact ⟨k + 1, by omega, rfl, by go_num, by rw [HSN.out, HE.out]; rfl, X0, X1, DZ⟩
                      | true =>
                        by_cases h1 : (vfn : Int) = D
                        · have h2 : ((vfn : Int) == D) = true := by simpa using h1
                          have HE2 : Hid ((true && true && true && decide ((vfn : Int) = D) && decide ((vsn : Int) = D)) = ((vsn : Int) == D)) := by show _ = _; rw [show decide ((vfn : Int) = D) = true from decide_eq_true h1]; simp; rfl
                          clear h1
                          go_wp2_with fail
                          clear a1 x0 x13 h2
                          go_roundg (bn - (k + 1))
                          case measure => omega
                          case rel => exact ⟨k + 1, by omega, rfl, by go_num, by rw [HSN.out, HE.out, HE2.out], X0, X1, DZ⟩
                        · have h2 : ((vfn : Int) == D) = false := by simpa using h1
                          have HE2 : Hid ((true && true && true && decide ((vfn : Int) = D) && decide ((vsn : Int) = D)) = false) := by show _ = _; rw [show decide ((vfn : Int) = D) = false from decide_eq_false h1]; rfl
                          clear h1
                          go_wp2_with fail
                          clear a1 x0 x13 h2
                          go_roundg (bn - (k + 1))
                          case measure => omega
                          case rel => exact ⟨k + 1, by omega, rfl, by go_num, by rw [HSN.out, HE.out, HE2.out], X0, X1, DZ⟩
            · obtain rfl : k = bn := by omega
              have HZ : Hid (xf = (false && (bs.take k).all (bkB D H))) := by show _ = _; rw [HXF.out, List.take_of_length_le (by have := HBL.out; omega)]
              generalize (false && (bs.take k).all (bkB D H)) = z at *
              cases z with
              | false =>
                go_wp2_with fail
                go_ret
                exact ⟨by rw [HR.out, HZ.out]; rfl, DR⟩
              | true =>
                go_wp2_with fail
                go_ret
                exact ⟨by rw [HR.out, HZ.out]; rfl, DR⟩
      · have hl2 : ((ln : Int) == D) = false := by simpa using hl
        have HXF : Hid (xf = (false && bs.all (bkB D H))) := by show _ = _; rw [HF.out, show decide ((ln : Int) = D) = false from decide_eq_false hl]; simp
        clear HF hl
        go_wp2_with fail
        clear a1 a4 b3 b4 hl2
        go_loopg [6, 51] bn (fun r g6 i wr => ∃ k : Nat, k ≤ bn ∧ r = bn - k ∧ i = .int .i64 (k : Int) ∧ g6 = .bool (false && (bs.take k).all (bkB D H)) ∧ Blk wr w.heap.size 23 #[.int .i64 V, .int .i64 D, .int .i64 Hd, .int .i64 H, .int .i64 L] ∧ Blk wr (w0.heap.size) 38 #[.int .i64 er, .int .i64 ec, .slice ea en ez, .slice ba bn bz, .slice la ln lz, .int .i64 gr, .int .i64 gc, .slice ga gn gz] ∧ Below w.heap.size w wr)
        case atStart => exact ⟨0, by omega, by omega, rfl, by simp, X0, X1, D4⟩
        case round =>
          clear X0 X1 D4
          obtain ⟨k, hk, rfl, rfl, rfl, X0, X1, DR⟩ := hrel
          rename World => wo
          by_cases hlt : k < bn
          · obtain ⟨xx, hxx⟩ : ∃ x, bs[k]? = some x := ⟨_, List.getElem?_eq_getElem (show k < bs.length by have := HBL.out; omega)⟩
            obtain ⟨gb, ob, eba, hcb⟩ := (HB.out wo DR).cells (by show 0 < bn; omega)
            have eba' : ba = some ⟨gb, ob, none⟩ := eba
            subst eba'
            have r0 := hcb k xx hxx
            have hok := (HB.out wo DR).ok xx (List.mem_of_getElem? hxx)
            have HSN : Hid ((bs.take (k + 1)).all (bkB D H) = ((bs.take k).all (bkB D H) && bkB D H xx)) := all_take hxx
            generalize (bs.take k).all (bkB D H) = p0 at *
            obtain ⟨g, hg⟩ : ∃ g, (false && p0) = g := ⟨_, rfl⟩
            have HG : Hid ((false && p0) = g) := hg
            rw [hg]
            clear hg
            obtain ⟨⟨vfa, vfn, vfz⟩, ⟨vqr, vqc, ⟨vqa, vqn, vqz⟩⟩, ⟨vkr, vkc, ⟨vka, vkn, vkz⟩⟩, ⟨vvr, vvc, ⟨vva, vvn, vvz⟩⟩, ⟨vor, voc, ⟨voa, von, voz⟩⟩, ⟨vsa, vsn, vsz⟩, ⟨vur, vuc, ⟨vua, vun, vuz⟩⟩, ⟨vdr, vdc, ⟨vda, vdn, vdz⟩⟩⟩ := xx
            rw [show Bk.cells ⟨⟨vfa, vfn, vfz⟩, ⟨vqr, vqc, ⟨vqa, vqn, vqz⟩⟩, ⟨vkr, vkc, ⟨vka, vkn, vkz⟩⟩, ⟨vvr, vvc, ⟨vva, vvn, vvz⟩⟩, ⟨vor, voc, ⟨voa, von, voz⟩⟩, ⟨vsa, vsn, vsz⟩, ⟨vur, vuc, ⟨vua, vun, vuz⟩⟩, ⟨vdr, vdc, ⟨vda, vdn, vdz⟩⟩⟩ = #[.slice vfa vfn vfz, .int .i64 vqr, .int .i64 vqc, .slice vqa vqn vqz, .int .i64 vkr, .int .i64 vkc, .slice vka vkn vkz, .int .i64 vvr, .int .i64 vvc, .slice vva vvn vvz, .int .i64 vor, .int .i64 voc, .slice voa von voz, .slice vsa vsn vsz, .int .i64 vur, .int .i64 vuc, .slice vua vun vuz, .int .i64 vdr, .int .i64 vdc, .slice vda vdn vdz] from rfl] at r0
            have HSN2 : Hid ((false && (bs.take (k + 1)).all (bkB D H)) = (g && bkB D H ⟨⟨vfa, vfn, vfz⟩, ⟨vqr, vqc, ⟨vqa, vqn, vqz⟩⟩, ⟨vkr, vkc, ⟨vka, vkn, vkz⟩⟩, ⟨vvr, vvc, ⟨vva, vvn, vvz⟩⟩, ⟨vor, voc, ⟨voa, von, voz⟩⟩, ⟨vsa, vsn, vsz⟩, ⟨vur, vuc, ⟨vua, vun, vuz⟩⟩, ⟨vdr, vdc, ⟨vda, vdn, vdz⟩⟩⟩)) := by show _ = _; rw [HSN.out, ← Bool.and_assoc, HG.out]
            clear HSN HG
            have HSN := HSN2
            clear HSN2
            have HBK : Hid (bkB D H ⟨⟨vfa, vfn, vfz⟩, ⟨vqr, vqc, ⟨vqa, vqn, vqz⟩⟩, ⟨vkr, vkc, ⟨vka, vkn, vkz⟩⟩, ⟨vvr, vvc, ⟨vva, vvn, vvz⟩⟩, ⟨vor, voc, ⟨voa, von, voz⟩⟩, ⟨vsa, vsn, vsz⟩, ⟨vur, vuc, ⟨vua, vun, vuz⟩⟩, ⟨vdr, vdc, ⟨vda, vdn, vdz⟩⟩⟩ = ((sidesB ⟨vqr, vqc, ⟨vqa, vqn, vqz⟩⟩ D D && sidesB ⟨vkr, vkc, ⟨vka, vkn, vkz⟩⟩ D D && sidesB ⟨vvr, vvc, ⟨vva, vvn, vvz⟩⟩ D D && sidesB ⟨vor, voc, ⟨voa, von, voz⟩⟩ D D) && sidesB ⟨vur, vuc, ⟨vua, vun, vuz⟩⟩ H D && sidesB ⟨vdr, vdc, ⟨vda, vdn, vdz⟩⟩ D H && decide ((vfn : Int) = D) && decide ((vsn : Int) = D))) := by show _ = _; rw [bk_order]; rfl
            have CU := fun wv => rfits6_any ⟨vur, vuc, ⟨vua, vun, vuz⟩⟩ H D wv hok.u
            have CD := fun wv => rfits6_any ⟨vdr, vdc, ⟨vda, vdn, vdz⟩⟩ D H wv hok.d
            have HM : Hid (∀ (j : Nat) (m : Mt), ([⟨vqr, vqc, ⟨vqa, vqn, vqz⟩⟩, ⟨vkr, vkc, ⟨vka, vkn, vkz⟩⟩, ⟨vvr, vvc, ⟨vva, vvn, vvz⟩⟩, ⟨vor, voc, ⟨voa, von, voz⟩⟩] : List Mt)[j]? = some m → m.Ok) := fun j m hm => by
              have := List.mem_of_getElem? hm
              simp only [List.mem_cons, List.not_mem_nil, or_false] at this
              rcases this with rfl | rfl | rfl | rfl
              · exact hok.q
              · exact hok.k
              · exact hok.v
              · exact hok.o
            have hfn : vfn ≤ 9223372036854775807 := hok.f
            have hsn : vsn ≤ 9223372036854775807 := hok.s
            have HM4 : Hid (([⟨vqr, vqc, ⟨vqa, vqn, vqz⟩⟩, ⟨vkr, vkc, ⟨vka, vkn, vkz⟩⟩, ⟨vvr, vvc, ⟨vva, vvn, vvz⟩⟩, ⟨vor, voc, ⟨voa, von, voz⟩⟩] : List Mt).all (fun m => sidesB m D D) = (sidesB ⟨vqr, vqc, ⟨vqa, vqn, vqz⟩⟩ D D && sidesB ⟨vkr, vkc, ⟨vka, vkn, vkz⟩⟩ D D && sidesB ⟨vvr, vvc, ⟨vva, vvn, vvz⟩⟩ D D && sidesB ⟨vor, voc, ⟨voa, von, voz⟩⟩ D D)) := by show _ = _; simp [Bool.and_assoc]
            simp only at CU CD
            clear hok hcb hxx eba
            generalize sidesB ⟨vur, vuc, ⟨vua, vun, vuz⟩⟩ H D = u1 at *
            generalize sidesB ⟨vdr, vdc, ⟨vda, vdn, vdz⟩⟩ D H = d1 at *
            generalize (sidesB ⟨vqr, vqc, ⟨vqa, vqn, vqz⟩⟩ D D && sidesB ⟨vkr, vkc, ⟨vka, vkn, vkz⟩⟩ D D && sidesB ⟨vvr, vvc, ⟨vva, vvn, vvz⟩⟩ D D && sidesB ⟨vor, voc, ⟨voa, von, voz⟩⟩ D D) = m4 at *
            have szr := DR.size
            have z1 := X1.lt
            obtain ⟨XE, XB, BF⟩ := var3f wo 61 #[.slice none 0 0, .int .i64 0, .int .i64 0, .slice none 0 0, .int .i64 0, .int .i64 0, .slice none 0 0, .int .i64 0, .int .i64 0, .slice none 0 0, .int .i64 0, .int .i64 0, .slice none 0 0, .slice none 0 0, .int .i64 0, .int .i64 0, .slice none 0 0, .int .i64 0, .int .i64 0, .slice none 0 0] #[.slice vfa vfn vfz, .int .i64 vqr, .int .i64 vqc, .slice vqa vqn vqz, .int .i64 vkr, .int .i64 vkc, .slice vka vkn vkz, .int .i64 vvr, .int .i64 vvc, .slice vva vvn vvz, .int .i64 vor, .int .i64 voc, .slice voa von voz, .slice vsa vsn vsz, .int .i64 vur, .int .i64 vuc, .slice vua vun vuz, .int .i64 vdr, .int .i64 vdc, .slice vda vdn vdz]
            have hone : Array.all (#[.slice vfa vfn vfz, .int .i64 vqr, .int .i64 vqc, .slice vqa vqn vqz, .int .i64 vkr, .int .i64 vkc, .slice vka vkn vkz, .int .i64 vvr, .int .i64 vvc, .slice vva vvn vvz, .int .i64 vor, .int .i64 voc, .slice voa von voz, .slice vsa vsn vsz, .int .i64 vur, .int .i64 vuc, .slice vua vun vuz, .int .i64 vdr, .int .i64 vdc, .slice vda vdn vdz] : Array Value) (fun v => v.oneCell') = true := by simp [Value.oneCell']
            generalize hwe : wo.alloc (.cells #[.slice none 0 0, .int .i64 0, .int .i64 0, .slice none 0 0, .int .i64 0, .int .i64 0, .slice none 0 0, .int .i64 0, .int .i64 0, .slice none 0 0, .int .i64 0, .int .i64 0, .slice none 0 0, .slice none 0 0, .int .i64 0, .int .i64 0, .slice none 0 0, .int .i64 0, .int .i64 0, .slice none 0 0] 61) = we at *
            generalize hwf : we.setRow wo.heap.size #[.slice vfa vfn vfz, .int .i64 vqr, .int .i64 vqc, .slice vqa vqn vqz, .int .i64 vkr, .int .i64 vkc, .slice vka vkn vkz, .int .i64 vvr, .int .i64 vvc, .slice vva vvn vvz, .int .i64 vor, .int .i64 voc, .slice voa von voz, .slice vsa vsn vsz, .int .i64 vur, .int .i64 vuc, .slice vua vun vuz, .int .i64 vdr, .int .i64 vdc, .slice vda vdn vdz] = wf at *
            have DF := below_then DR BF
            replace X0 := X0.below BF
            replace X1 := X1.below BF
            clear BF
            have x1 : wf.cell? ⟨wo.heap.size, 1, none⟩ = some (.int .i64 vqr) := XB.cell 1 rfl
            have x2 : wf.cell? ⟨wo.heap.size, 2, none⟩ = some (.int .i64 vqc) := XB.cell 2 rfl
            have x3 : wf.cell? ⟨wo.heap.size, 3, none⟩ = some (.slice vqa vqn vqz) := XB.cell 3 rfl
            have x4 : wf.cell? ⟨wo.heap.size, 4, none⟩ = some (.int .i64 vkr) := XB.cell 4 rfl
            have x5 : wf.cell? ⟨wo.heap.size, 5, none⟩ = some (.int .i64 vkc) := XB.cell 5 rfl
            have x6 : wf.cell? ⟨wo.heap.size, 6, none⟩ = some (.slice vka vkn vkz) := XB.cell 6 rfl
            have x7 : wf.cell? ⟨wo.heap.size, 7, none⟩ = some (.int .i64 vvr) := XB.cell 7 rfl
            have x8 : wf.cell? ⟨wo.heap.size, 8, none⟩ = some (.int .i64 vvc) := XB.cell 8 rfl
            have x9 : wf.cell? ⟨wo.heap.size, 9, none⟩ = some (.slice vva vvn vvz) := XB.cell 9 rfl
            have x10 : wf.cell? ⟨wo.heap.size, 10, none⟩ = some (.int .i64 vor) := XB.cell 10 rfl
            have x11 : wf.cell? ⟨wo.heap.size, 11, none⟩ = some (.int .i64 voc) := XB.cell 11 rfl
            have x12 : wf.cell? ⟨wo.heap.size, 12, none⟩ = some (.slice voa von voz) := XB.cell 12 rfl
            have BM : Below wf.heap.size wf (wf.alloc (.cells #[.int .i64 vqr, .int .i64 vqc, .slice vqa vqn vqz, .int .i64 vkr, .int .i64 vkc, .slice vka vkn vkz, .int .i64 vvr, .int .i64 vvc, .slice vva vvn vvz, .int .i64 vor, .int .i64 voc, .slice voa von voz] 26)) := (Below.refl _ _).alloc (Nat.le_refl _) _
            have XM := blk_new wf 26 #[.int .i64 vqr, .int .i64 vqc, .slice vqa vqn vqz, .int .i64 vkr, .int .i64 vkc, .slice vka vkn vkz, .int .i64 vvr, .int .i64 vvc, .slice vva vvn vvz, .int .i64 vor, .int .i64 voc, .slice voa von voz]
            go_upto_region 9 with (first | (refine wpList_load_mid rfl 61 _ rfl gb (ob + k * 20) rfl (#[.slice vfa vfn vfz, .int .i64 vqr, .int .i64 vqc, .slice vqa vqn vqz, .int .i64 vkr, .int .i64 vkc, .slice vka vkn vkz, .int .i64 vvr, .int .i64 vvc, .slice vva vvn vvz, .int .i64 vor, .int .i64 voc, .slice voa von voz, .slice vsa vsn vsz, .int .i64 vur, .int .i64 vuc, .slice vua vun vuz, .int .i64 vdr, .int .i64 vdc, .slice vda vdn vdz] : Array Value).toList _ r0 Tryz.underlying61 rfl (by exact Tryz.infoRB1) ?_) | (refine wpList_store_row rfl 61 _ _ rfl wo.heap.size #[.slice vfa vfn vfz, .int .i64 vqr, .int .i64 vqc, .slice vqa vqn vqz, .int .i64 vkr, .int .i64 vkc, .slice vka vkn vkz, .int .i64 vvr, .int .i64 vvc, .slice vva vvn vvz, .int .i64 vor, .int .i64 voc, .slice voa von voz, .slice vsa vsn vsz, .int .i64 vur, .int .i64 vuc, .slice vua vun vuz, .int .i64 vdr, .int .i64 vdc, .slice vda vdn vdz] rfl rfl 61 _ XE (by exact Tryz.infoRB1) rfl hone ?_; rw [hwf]))
            clear hwe hwf XE r0 hone x1 x2 x3 x4 x5 x6 x7 x8 x9 x10 x11 x12
            generalize hwm : wf.alloc (.cells #[.int .i64 vqr, .int .i64 vqc, .slice vqa vqn vqz, .int .i64 vkr, .int .i64 vkc, .slice vka vkn vkz, .int .i64 vvr, .int .i64 vvc, .slice vva vvn vvz, .int .i64 vor, .int .i64 voc, .slice voa von voz] 26) = wm at *
            replace X0 := X0.below BM
            replace X1 := X1.below BM
            replace XB := XB.below BM
            have DM := below_then DF BM
            clear BM hwm
            go_loopg [6, 65] 4 (fun r g6 i wv => ∃ j : Nat, j ≤ 4 ∧ r = 4 - j ∧ i = .int .i64 (j : Int) ∧ g6 = .bool (g && (([⟨vqr, vqc, ⟨vqa, vqn, vqz⟩⟩, ⟨vkr, vkc, ⟨vka, vkn, vkz⟩⟩, ⟨vvr, vvc, ⟨vva, vvn, vvz⟩⟩, ⟨vor, voc, ⟨voa, von, voz⟩⟩] : List Mt).take j).all fun m => sidesB m D D) ∧ Blk wv w.heap.size 23 #[.int .i64 V, .int .i64 D, .int .i64 Hd, .int .i64 H, .int .i64 L] ∧ Blk wv (w0.heap.size) 38 #[.int .i64 er, .int .i64 ec, .slice ea en ez, .slice (some ⟨gb, ob, none⟩) bn bz, .slice la ln lz, .int .i64 gr, .int .i64 gc, .slice ga gn gz] ∧ Blk wv wo.heap.size 61 #[.slice vfa vfn vfz, .int .i64 vqr, .int .i64 vqc, .slice vqa vqn vqz, .int .i64 vkr, .int .i64 vkc, .slice vka vkn vkz, .int .i64 vvr, .int .i64 vvc, .slice vva vvn vvz, .int .i64 vor, .int .i64 voc, .slice voa von voz, .slice vsa vsn vsz, .int .i64 vur, .int .i64 vuc, .slice vua vun vuz, .int .i64 vdr, .int .i64 vdc, .slice vda vdn vdz] ∧ Blk wv wf.heap.size 26 #[.int .i64 vqr, .int .i64 vqc, .slice vqa vqn vqz, .int .i64 vkr, .int .i64 vkc, .slice vka vkn vkz, .int .i64 vvr, .int .i64 vvc, .slice vva vvn vvz, .int .i64 vor, .int .i64 voc, .slice voa von voz] ∧ Below w.heap.size w wv)
            case atStart => exact ⟨0, by omega, by omega, rfl, by simp, X0, X1, XB, XM, DM⟩
            case round =>
              clear X0 X1 XB XM DM
              obtain ⟨j, hj, rfl, rfl, rfl, X0, X1, XB, XM, DV⟩ := hrel
              by_cases hj4 : j < 4
              · obtain ⟨m, hm⟩ : ∃ m, ([⟨vqr, vqc, ⟨vqa, vqn, vqz⟩⟩, ⟨vkr, vkc, ⟨vka, vkn, vkz⟩⟩, ⟨vvr, vvc, ⟨vva, vvn, vvz⟩⟩, ⟨vor, voc, ⟨voa, von, voz⟩⟩] : List Mt)[j]? = some m := ⟨_, List.getElem?_eq_getElem (show j < ([⟨vqr, vqc, ⟨vqa, vqn, vqz⟩⟩, ⟨vkr, vkc, ⟨vka, vkn, vkz⟩⟩, ⟨vvr, vvc, ⟨vva, vvn, vvz⟩⟩, ⟨vor, voc, ⟨voa, von, voz⟩⟩] : List Mt).length from hj4)⟩
                have hmo := HM.out j m hm
                have rj : wr.rangeAt wf.heap.size (j * 3) [.int .i64 m.r, .int .i64 m.c, .slice m.d.ao m.d.n m.d.c] := mat4_range XM hm
                have HT : Hid (((([⟨vqr, vqc, ⟨vqa, vqn, vqz⟩⟩, ⟨vkr, vkc, ⟨vka, vkn, vkz⟩⟩, ⟨vvr, vvc, ⟨vva, vvn, vvz⟩⟩, ⟨vor, voc, ⟨voa, von, voz⟩⟩] : List Mt).take (j + 1)).all fun m => sidesB m D D) = (((([⟨vqr, vqc, ⟨vqa, vqn, vqz⟩⟩, ⟨vkr, vkc, ⟨vka, vkn, vkz⟩⟩, ⟨vvr, vvc, ⟨vva, vvn, vvz⟩⟩, ⟨vor, voc, ⟨voa, von, voz⟩⟩] : List Mt).take j).all fun m => sidesB m D D) && sidesB m D D)) := by
                  show _ = _
                  rw [List.take_add_one, hm, List.all_append]; simp
                generalize ((([⟨vqr, vqc, ⟨vqa, vqn, vqz⟩⟩, ⟨vkr, vkc, ⟨vka, vkn, vkz⟩⟩, ⟨vvr, vvc, ⟨vva, vvn, vvz⟩⟩, ⟨vor, voc, ⟨voa, von, voz⟩⟩] : List Mt).take j).all fun m => sidesB m D D) = pj at *
                obtain ⟨gj, hgj⟩ : ∃ gj, (g && pj) = gj := ⟨_, rfl⟩
                have HGJ : Hid ((g && pj) = gj) := hgj
                rw [hgj]
                clear hgj hm
                obtain ⟨mr, mc, ⟨ma, mn, mz⟩⟩ := m
                have CM := fun wx => rfits6_any ⟨mr, mc, ⟨ma, mn, mz⟩⟩ D D wx hmo
                simp only at CM rj
                generalize sidesB ⟨mr, mc, ⟨ma, mn, mz⟩⟩ D D = sm at *
                obtain ⟨XE2, XK, BK⟩ := var3f wr 26 #[.int .i64 0, .int .i64 0, .slice none 0 0] #[.int .i64 mr, .int .i64 mc, .slice ma mn mz]
                generalize hwe2 : wr.alloc (.cells #[.int .i64 0, .int .i64 0, .slice none 0 0] 26) = we2 at *
                generalize hwf2 : we2.setRow wr.heap.size #[.int .i64 mr, .int .i64 mc, .slice ma mn mz] = wk at *
                replace X0 := X0.below BK
                replace X1 := X1.below BK
                replace XB := XB.below BK
                replace XM := XM.below BK
                have DK := below_then DV BK
                clear BK
                have a1 : wk.cell? ⟨w.heap.size, 1, none⟩ = some (.int .i64 D) := X0.cell 1 rfl
                have m0 : wk.cell? ⟨wr.heap.size, 0, none⟩ = some (.int .i64 mr) := XK.cell 0 rfl
                have m1 : wk.cell? ⟨wr.heap.size, 1, none⟩ = some (.int .i64 mc) := XK.cell 1 rfl
                have m2 : wk.cell? ⟨wr.heap.size, 2, none⟩ = some (.slice ma mn mz) := XK.cell 2 rfl
                go_upto_region 11 with (first | (refine wpList_load_mid rfl 26 _ rfl wf.heap.size (j * 3) rfl [.int .i64 mr, .int .i64 mc, .slice ma mn mz] _ rj Tryz.underlying26 rfl (by kernel_rfl) ?_) | (refine wpList_store_row rfl 26 _ _ rfl wr.heap.size #[.int .i64 mr, .int .i64 mc, .slice ma mn mz] rfl rfl 26 _ XE2 (by kernel_rfl) rfl (by simp [Value.oneCell']) ?_; rw [hwf2]))
                clear hwe2 hwf2 XE2 rj
                cases gj with
                | false =>
                  clear CM
                  go_wp2_with fail
                  clear a1 m0 m1 m2
                  go_roundg (4 - (j + 1))
                  case measure => omega
                  case rel => exact ⟨j + 1, by omega, rfl, by go_num, by rw [HT.out, ← Bool.and_assoc, HGJ.out]; rfl, X0, X1, XB, XM, DK⟩
                | true =>
                  go_wp2_with fail
                  refine (CM wk).mono ?_
                  rintro e wy ⟨rfl, BY⟩
                  replace X0 := X0.below BY
                  replace X1 := X1.below BY
                  replace XB := XB.below BY
                  replace XM := XM.below BY
                  have DY := below_then DK BY
                  clear a1 m0 m1 m2 CM BY DK
                  go_wp2_with fail
                  go_roundg (4 - (j + 1))
                  case measure => omega
                  case rel => exact ⟨j + 1, by omega, rfl, by go_num, by rw [HT.out, ← Bool.and_assoc, HGJ.out]; rfl, X0, X1, XB, XM, DY⟩
              · obtain rfl : j = 4 := by omega
                have HQ4 : Hid ((g && (([⟨vqr, vqc, ⟨vqa, vqn, vqz⟩⟩, ⟨vkr, vkc, ⟨vka, vkn, vkz⟩⟩, ⟨vvr, vvc, ⟨vva, vvn, vvz⟩⟩, ⟨vor, voc, ⟨voa, von, voz⟩⟩] : List Mt).take 4).all fun m => sidesB m D D) = (g && m4)) := by show _ = _; rw [List.take_of_length_le (by simp), HM4.out]
                generalize (g && (([⟨vqr, vqc, ⟨vqa, vqn, vqz⟩⟩, ⟨vkr, vkc, ⟨vka, vkn, vkz⟩⟩, ⟨vvr, vvc, ⟨vva, vvn, vvz⟩⟩, ⟨vor, voc, ⟨voa, von, voz⟩⟩] : List Mt).take 4).all fun m => sidesB m D D) = q4 at *
                have HE : Hid ((g && bkB D H ⟨⟨vfa, vfn, vfz⟩, ⟨vqr, vqc, ⟨vqa, vqn, vqz⟩⟩, ⟨vkr, vkc, ⟨vka, vkn, vkz⟩⟩, ⟨vvr, vvc, ⟨vva, vvn, vvz⟩⟩, ⟨vor, voc, ⟨voa, von, voz⟩⟩, ⟨vsa, vsn, vsz⟩, ⟨vur, vuc, ⟨vua, vun, vuz⟩⟩, ⟨vdr, vdc, ⟨vda, vdn, vdz⟩⟩⟩) = (q4 && u1 && d1 && decide ((vfn : Int) = D) && decide ((vsn : Int) = D))) := by show _ = _; rw [HBK.out, HQ4.out]; simp only [Bool.and_assoc]
                clear HBK HQ4 HM HM4 XM
                have a1 : wr.cell? ⟨w.heap.size, 1, none⟩ = some (.int .i64 D) := X0.cell 1 rfl
                have a3 : wr.cell? ⟨w.heap.size, 3, none⟩ = some (.int .i64 H) := X0.cell 3 rfl
                have x14 : wr.cell? ⟨wo.heap.size, 14, none⟩ = some (.int .i64 vur) := XB.cell 14 rfl
                have x15 : wr.cell? ⟨wo.heap.size, 15, none⟩ = some (.int .i64 vuc) := XB.cell 15 rfl
                have x16 : wr.cell? ⟨wo.heap.size, 16, none⟩ = some (.slice vua vun vuz) := XB.cell 16 rfl
                cases q4 with
                | false =>
                  clear CU CD
                  go_wp2_with fail
                  clear a1 a3 x14 x15 x16
                  go_roundg (bn - (k + 1))
                  case measure => omega
                  case rel => exact ⟨k + 1, by omega, rfl, by go_num, by rw [HSN.out, HE.out]; rfl, X0, X1, DV⟩
                | true =>
                  go_wp2_with fail
                  refine (CU wr).mono ?_
                  rintro e wy ⟨rfl, BY⟩
                  replace X0 := X0.below BY
                  replace X1 := X1.below BY
                  replace XB := XB.below BY
                  have DY := below_then DV BY
                  clear a1 a3 x14 x15 x16 CU BY DV
                  have a1 : wy.cell? ⟨w.heap.size, 1, none⟩ = some (.int .i64 D) := X0.cell 1 rfl
                  have a3 : wy.cell? ⟨w.heap.size, 3, none⟩ = some (.int .i64 H) := X0.cell 3 rfl
                  have x17 : wy.cell? ⟨wo.heap.size, 17, none⟩ = some (.int .i64 vdr) := XB.cell 17 rfl
                  have x18 : wy.cell? ⟨wo.heap.size, 18, none⟩ = some (.int .i64 vdc) := XB.cell 18 rfl
                  have x19 : wy.cell? ⟨wo.heap.size, 19, none⟩ = some (.slice vda vdn vdz) := XB.cell 19 rfl
                  cases u1 with
                  | false =>
                    clear CD
                    go_wp2_with fail
                    clear a1 a3 x17 x18 x19
                    go_roundg (bn - (k + 1))
                    case measure => omega
                    case rel => exact ⟨k + 1, by omega, rfl, by go_num, by rw [HSN.out, HE.out]; rfl, X0, X1, DY⟩
                  | true =>
                    go_wp2_with fail
                    refine (CD wy).mono ?_
                    rintro e wz ⟨rfl, BY⟩
                    replace X0 := X0.below BY
                    replace X1 := X1.below BY
                    replace XB := XB.below BY
                    have DZ := below_then DY BY
                    clear a1 a3 x17 x18 x19 CD BY DY
                    have a1 : wz.cell? ⟨w.heap.size, 1, none⟩ = some (.int .i64 D) := X0.cell 1 rfl
                    have x0 : wz.cell? ⟨wo.heap.size, 0, none⟩ = some (.slice vfa vfn vfz) := XB.cell 0 rfl
                    have x13 : wz.cell? ⟨wo.heap.size, 13, none⟩ = some (.slice vsa vsn vsz) := XB.cell 13 rfl
                    cases d1 with
                    | false =>
                      go_wp2_with fail
                      clear a1 x0 x13
                      go_roundg (bn - (k + 1))
                      case measure => omega
                      case rel => exact ⟨k + 1, by omega, rfl, by go_num, by rw [HSN.out, HE.out]; rfl, X0, X1, DZ⟩
                    | true =>
                      by_cases h1 : (vfn : Int) = D
                      · have h2 : ((vfn : Int) == D) = true := by simpa using h1
                        have HE2 : Hid ((true && true && true && decide ((vfn : Int) = D) && decide ((vsn : Int) = D)) = ((vsn : Int) == D)) := by show _ = _; rw [show decide ((vfn : Int) = D) = true from decide_eq_true h1]; simp; rfl
                        clear h1
                        go_wp2_with fail
                        clear a1 x0 x13 h2
                        go_roundg (bn - (k + 1))
                        case measure => omega
                        case rel => exact ⟨k + 1, by omega, rfl, by go_num, by rw [HSN.out, HE.out, HE2.out], X0, X1, DZ⟩
                      · have h2 : ((vfn : Int) == D) = false := by simpa using h1
                        have HE2 : Hid ((true && true && true && decide ((vfn : Int) = D) && decide ((vsn : Int) = D)) = false) := by show _ = _; rw [show decide ((vfn : Int) = D) = false from decide_eq_false h1]; rfl
                        clear h1
                        go_wp2_with fail
                        clear a1 x0 x13 h2
                        go_roundg (bn - (k + 1))
                        case measure => omega
                        case rel => exact ⟨k + 1, by omega, rfl, by go_num, by rw [HSN.out, HE.out, HE2.out], X0, X1, DZ⟩
          · obtain rfl : k = bn := by omega
            have HZ : Hid (xf = (false && (bs.take k).all (bkB D H))) := by show _ = _; rw [HXF.out, List.take_of_length_le (by have := HBL.out; omega)]
            generalize (false && (bs.take k).all (bkB D H)) = z at *
            cases z with
            | false =>
              go_wp2_with fail
              go_ret
              exact ⟨by rw [HR.out, HZ.out]; rfl, DR⟩
            | true =>
              go_wp2_with fail
              go_ret
              exact ⟨by rw [HR.out, HZ.out]; rfl, DR⟩
end Go.Proofs.YtmdjlaileakbeaaGreatDoor
