/- Maps of Holdings by number: their elements, and what copies them. -/
import Derived.Test.YtacmphckmjangaaMpBase
import Derived.WalkKit
namespace Go.Proofs.Ytacmphckmjangaa
open Go.ChangeShapes Go.WideShapes Go.ChangeAt Go.RowKit Go.Maps
structure Hg where
  hol : Int
  epo : Int
  unt : Int
def Hg.val (h : Hg) : Value := .agg #[.int .i64 h.hol, .int .i64 h.epo, .int .i64 h.unt]
def Hg.zero : Hg := ⟨0, 0, 0⟩
theorem Hg.zeroV (w : World) : (zeroValue 51).run Try.prog w = .ok (Hg.val Hg.zero) w := by kernel_rfl
theorem Try.infoHg : (Try.prog.info? 51).map (·.size) = some 3 := by kernel_rfl
/-- A map, nil or not. -/
def HgM (w : World) (mo : Option Nat) (L : List (Int × Hg)) : Prop := (mo = none ∧ L = []) ∨ ∃ b, mo = some b ∧ MapAt Hg.val w b L
theorem HgM.below {w w' : World} {mo : Option Nat} {L : List (Int × Hg)} (h : HgM w mo L) (hb : Below w.heap.size w w') : HgM w' mo L := by
  rcases h with h | ⟨b, e, h⟩
  · exact Or.inl h
  · exact Or.inr ⟨b, e, h.below hb⟩
theorem HgM.look {w : World} {mo : Option Nat} {L : List (Int × Hg)} (h : HgM w mo L) (x : Int) (hx : -9223372036854775808 ≤ x ∧ x ≤ 9223372036854775807) :
    (Instr.lookup 24 (.map mo) (.int .i64 x) true).run Try.prog w = .ok (.tuple #[((getM L x).getD Hg.zero).val, .bool (getM L x).isSome]) w := by
  rcases h with ⟨rfl, rfl⟩ | ⟨b, rfl, h⟩
  · exact look_nilM Hg.val w Try.underlying24 (Hg.zeroV w) x hx
  · exact h.look Try.underlying24 (Hg.zeroV w) x hx
theorem HgM.look1 {w : World} {mo : Option Nat} {L : List (Int × Hg)} (h : HgM w mo L) (x : Int) (hx : -9223372036854775808 ≤ x ∧ x ≤ 9223372036854775807) :
    (Instr.lookup 24 (.map mo) (.int .i64 x) false).run Try.prog w = .ok (((getM L x).getD Hg.zero).val) w := by
  rcases h with ⟨rfl, rfl⟩ | ⟨b, rfl, h⟩
  · exact look1_nilM Hg.val w Try.underlying24 (Hg.zeroV w) x hx
  · exact h.look1 Try.underlying24 (Hg.zeroV w) x hx
theorem HgM.len {w : World} {mo : Option Nat} {L : List (Int × Hg)} (h : HgM w mo L) (ty : TypeId) :
    (Builtin.len_ #[24] ty #[.map mo]).run Try.prog w = .ok (.int .i64 (L.length : Int)) w := by
  rcases h with ⟨rfl, rfl⟩ | ⟨b, rfl, h⟩
  · exact Maps.len_nil Try.underlying24 ty
  · exact h.len Try.underlying24 ty
theorem HgM.apart {w : World} {mo : Option Nat} {L : List (Int × Hg)} (h : HgM w mo L) : L.Pairwise (fun p q => p.1 ≠ q.1) := by
  rcases h with ⟨_, rfl⟩ | ⟨b, _, h⟩
  · exact List.Pairwise.nil
  · exact h.apart
set_option maxHeartbeats 4000000 in
set_option maxRecDepth 100000 in
theorem Hg.copy_some (bd bs : Nat) (L : List (Int × Hg)) (w : World) (hd : MapAt Hg.val w bd []) (hs : MapAt Hg.val w bs L) (hne : bd ≠ bs) (hroom : L.length ≤ 1000000) :
    Calls Try.prog 23 #[.map (some bd), .map (some bs)] w fun e w' => e = .returned (.tuple #[]) ∧ MapAt Hg.val w' bd L ∧ But bd w w' := by
  have hbd := hd.lt
  have hbs := hs.lt
  obtain ⟨e0, hd0, hp0⟩ := hd
  obtain rfl : e0 = [] := List.Perm.eq_nil hp0
  obtain ⟨es, hs0, hp⟩ := hs
  have hsz : Maps.size (DataW.map es) = L.length := by simp [Maps.size, hp.length_eq]
  go_enter Try.func23, Try.ntmps23
  go_wp2_with (first
    | (at_range; refine wpList_range_own _ rfl _ 24 rfl 3 51 lawI Try.underlying24 (rdE Hg.val) bs L.length _ rfl hs0 ?_; intro w0 hrg0 hg0 hs0)
    | go_in)
  go_frame
  go_loopw [8] (fun _ wr => ∃ (left : Lit → Bool) (cnt : Nat) (Dout : DataW Value), wr.ranges Try.prog 3 (rdE Hg.val) bs w.heap.size L.length (.map es) left cnt ∧ cnt ≤ L.length ∧
      wr.ownsMap Try.prog 3 (rdE Hg.val) bd (L.length - cnt) Dout ∧ Agree Dout (.map es) left ∧ But bd w wr)
    (fun _ wr => wr.rangeLeft bs w.heap.size)
  case atStart =>
    exact ⟨_, _, .map [], hrg0, by omega, (hd0.kept hg0 (by simp)).mono (by simp), agree_start _, (But.refl bd w).grown hg0 (fun j hj => by cases hj)⟩
  case round =>
    obtain ⟨left, cnt, Dout, hrg, hcs, hout, hA, hgw⟩ := hrel
    have hsw := hgw.size
    go_wp2_with (first
      | (at_next; refine wpList_next_ranges _ rfl _ rfl 3 lawI (rdE Hg.val) (Value.int .i64) Hg.val (fun key kl hkey => by obtain ⟨x, rfl, _⟩ := Maps.keyOf_int_inv Try.underlying3 hkey; exact ⟨x, rfl⟩) (fun v y hv => by obtain ⟨c, rfl, _⟩ := rdE_inv _ hv; exact ⟨c, rfl⟩) bs w.heap.size L.length _ _ _ rfl hrg ?_ ?_)
      | go_in)
    · intro hc0 hl0
      go_wp2
      go_end0
      have e := agree_end hA hl0 (hout.canon lawI) (hrg.owns.canon lawI)
      subst e
      exact ⟨rfl, mapAt_of hout hp, hgw⟩
    · intro x c kl yd yp w1 cnt1 hkey hlx hv hat hrg1 hlt hg1 hs1 hen
      obtain ⟨hol, epo, unt⟩ := c
      have hout1 := hout.kept hg1 (fun e => by have := Option.some.inj e; omega)
      have hgw1 := hgw.grown hg1 (fun j hj => Or.inl (by cases hj; exact Nat.le_refl _))
      obtain ⟨cc, hcc, hyy⟩ := rdE_inv _ hv
      rw [Prod.mk.injEq] at hyy
      obtain ⟨rfl, rfl⟩ := hyy
      obtain ⟨x', hx', rfl, hwx⟩ := Maps.keyOf_int_inv Try.underlying3 hkey
      have hxx : x = x' := by injection hx'
      subst hxx
      rw [← hcc] at hat
      have XA := blk_new w1 51 #[.int .i64 0, .int .i64 0, .int .i64 0]
      have ga := World.grownBy_alloc w1 (.cells #[.int .i64 0, .int .i64 0, .int .i64 0] 51) none
      have hwa : (w1.alloc (.cells #[.int .i64 0, .int .i64 0, .int .i64 0] 51)).heap.size = w1.heap.size + 1 := by simp
      generalize hwA : w1.alloc (.cells #[.int .i64 0, .int .i64 0, .int .i64 0] 51) = wA at *
      have XB := XA.row #[.int .i64 hol, .int .i64 epo, .int .i64 unt]
      have gb := grown_row wA w1.heap.size #[.int .i64 hol, .int .i64 epo, .int .i64 unt]
      have hwb : (wA.setRow w1.heap.size #[.int .i64 hol, .int .i64 epo, .int .i64 unt]).heap.size = w1.heap.size + 1 := by rw [setRow_size, hwa]
      generalize hwB : wA.setRow w1.heap.size #[.int .i64 hol, .int .i64 epo, .int .i64 unt] = wB at *
      have s1 : w.heap.size ≤ w1.heap.size := by omega
      have houtB := (hout1.kept ga (by simp)).kept gb (fun e => by have := Option.some.inj e; omega)
      have hrgB := (hrg1.kept ga (by simp) (by simp)).kept gb (fun e => by have := Option.some.inj e; omega) (fun e => by have := Option.some.inj e; have := hrg1.lt; omega)
      have hgwB := (hgw1.grown ga (fun j hj => by cases hj)).grown gb (fun j hj => Or.inl (by cases hj; omega))
      have hcN : L.length - cnt < maxLen := by unfold maxLen; omega
      have hall : Array.all (#[.int .i64 hol, .int .i64 epo, .int .i64 unt] : Array Value) (fun v => v.oneCell') = true := by simp [Value.oneCell']
      have hv' := rdE_mk Hg.val ⟨hol, epo, unt⟩
      have hsz2 : w.heap.size < w1.heap.size := by have := hrg1.lt; omega
      clear hs1 hwa hwb
      unfold Hg.val at hen hv'
      unfold Hg.val
      go_wp2_with (first
        | (refine wpList_store_row rfl 51 _ _ rfl w1.heap.size #[.int .i64 hol, .int .i64 epo, .int .i64 unt] rfl rfl 51 _ XA Try.infoHg rfl hall ?_; rw [hwB])
        | (refine wpList_load_row rfl 51 _ rfl w1.heap.size rfl 51 _ (0, 0) _ XB Try.underlying51 rfl Try.infoHg ?_)
        | (at_mapUpdate; refine wpList_mapUpdate_own _ rfl _ _ _ 24 rfl 3 51 lawI Try.underlying24 (rdE Hg.val) bd _ _ rfl houtB hcN _ _ _ rfl rfl hkey _ [] hv' ?_; intro w2 hout2 hg2; go_frame)
        | go_in)
      have hrg2 := hrgB.kept hg2 (fun e => hne (Option.some.inj e).symm) (fun e => by have := Option.some.inj e; omega)
      go_roundw
      case rel =>
        refine ⟨_, cnt1, _, hrg2, by omega, hout2.mono (by omega), agree_step hA hout.isMap (lawI.key hkey) (fun zd => by rw [hat zd]; rfl), hgwB.grown hg2 (fun j hj => Or.inr (Option.some.inj hj).symm)⟩
      case measure => rw [hrg2.left_eq, hrg.left_eq]; exact hlt
set_option maxHeartbeats 2000000 in
theorem Hg.copy_nil (bd : Nat) (w : World) (hd : MapAt Hg.val w bd []) :
    Calls Try.prog 23 #[.map (some bd), .map none] w fun e w' => e = .returned (.tuple #[]) ∧ MapAt Hg.val w' bd [] ∧ But bd w w' := by
  have hrg := run_range_nilMap (P := Try.prog) w 24 _ _ Try.underlying24
  have hnx : ∀ ty, (Instr.next (.pointer (some ⟨w.heap.size, 0, none⟩)) false ty).run Try.prog (w.alloc (.mapIter none 0 #[] 0)) = _ := fun ty => run_next_nilMap _ ty 0 0 #[]
  go_enter Try.func23, Try.ntmps23
  go_wp2
  refine wp_loop_rounds 1 ?_
  rw [rounds_succ]
  go_wp2
  go_end0
  exact ⟨rfl, hd.below ((Below.refl _ _).alloc (Nat.le_refl _) _), But.of_below ((Below.refl _ _).alloc (Nat.le_refl _) _)⟩
theorem Hg.copy_any (bd : Nat) (mo : Option Nat) (L : List (Int × Hg)) (w : World) (hd : MapAt Hg.val w bd []) (hs : HgM w mo L) (hne : mo ≠ some bd) (hroom : L.length ≤ 1000000) :
    Calls Try.prog 23 #[.map (some bd), .map mo] w fun e w' => e = .returned (.tuple #[]) ∧ MapAt Hg.val w' bd L ∧ But bd w w' := by
  rcases hs with ⟨rfl, rfl⟩ | ⟨bs, rfl, h⟩
  · exact Hg.copy_nil bd w hd
  · exact Hg.copy_some bd bs L w hd h (fun e => hne (by rw [e])) hroom
end Go.Proofs.Ytacmphckmjangaa
