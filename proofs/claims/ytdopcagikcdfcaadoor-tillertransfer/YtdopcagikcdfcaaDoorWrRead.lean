/- Package wire's parse and Read: of a right message's frame, and of a frame that isn't right. Condition: the package's variables hold what they are laid with. -/
import Derived.Test.YtdopcagikcdfcaaDoorWrOf
import Derived.Test.YtdopcagikcdfcaaDoorKBack
namespace Go.Proofs.YtdopcagikcdfcaaDoor
open Go.ChangeShapes Go.WideShapes Go.ChangeAt Go.RowKit
theorem results_blk2 {fn : Func} {p u : Tmp} {ty : TypeId} (h : fn.results = #[.cell p ty, .tmp u]) (tmps : Array Value) (w : World) (g : Nat) (cs : Array Value)
    (hp : tmps.getD p undef = .pointer (some ⟨g, 0, none⟩)) (hl : (loadVar ty ⟨g, 0, none⟩).run Tryd.prog w = .ok (.agg cs) w) :
    (results fn tmps).run Tryd.prog w = .ok (.tuple #[.agg cs, tmps.getD u undef]) w := by
  have hp' : tmps[p]?.getD undef = .pointer (some ⟨g, 0, none⟩) := by simpa using hp
  simp [results, h, hp', asAddr, hl]
theorem load_msg {w : World} {g : Nat} {cs : Array Value} (h : Blk w g 50 cs) (hs : cs.size = 12) : (loadVar 50 ⟨g, 0, none⟩).run Tryd.prog w = .ok (.agg cs) w :=
  run_loadVar_row w g _ _ cs _ _ h Tryd.underlying50 rfl (by rw [hs]; exact Tryd.infoMsg)
theorem IArg.row' {w : World} {ao : Option Addr} {n ca : Nat} {A : List Int} (h : IArg w ao n ca A) {g : Nat} (hg : 0 < n → ∀ ad, ao = some ad → ad.block ≠ g) (cs : Array Value) : IArg (w.setRow g cs) ao n ca A := by
  refine ⟨⟨h.row.len, h.row.max, h.row.small, fun hn => ?_⟩, h.fit, h.max, h.nil⟩
  obtain ⟨b, o, e, hc⟩ := h.row.cells hn
  refine ⟨b, o, e, fun t ht => ?_⟩
  have h1 := hc t ht
  have e2 : (w.setRow g cs).heap[b]? = w.heap[b]? := setRow_other _ _ _ _ (hg hn _ e)
  unfold World.cell? at *
  simp only [e2]
  exact h1
theorem IArg.lt {w : World} {ao : Option Addr} {n ca : Nat} {A : List Int} (h : IArg w ao n ca A) (hn : 0 < n) (ad : Addr) (e : ao = some ad) : ad.block < w.heap.size := by
  obtain ⟨b, o, e2, hc⟩ := h.row.cells hn
  rw [e] at e2
  injection e2 with e2
  subst e2
  exact cell_lt (hc 0 hn)
/-- The array of the numbers that were read. -/
def arrC (g : Nat → Int) (k : Nat) : Array Value := ((List.range 10).map fun j => Value.int .i64 (if j < k then g j else 0)).toArray
theorem arr_set (g : Nat → Int) (k : Nat) (hk : k < 10) : (arrC g k).setIfInBounds k (.int .i64 (g k)) = arrC g (k + 1) := by
  have : k = 0 ∨ k = 1 ∨ k = 2 ∨ k = 3 ∨ k = 4 ∨ k = 5 ∨ k = 6 ∨ k = 7 ∨ k = 8 ∨ k = 9 := by omega
  rcases this with rfl | rfl | rfl | rfl | rfl | rfl | rfl | rfl | rfl | rfl <;> rfl
theorem arr_zero (g : Nat → Int) : arrC g 0 = #[.int .i64 0, .int .i64 0, .int .i64 0, .int .i64 0, .int .i64 0, .int .i64 0, .int .i64 0, .int .i64 0, .int .i64 0, .int .i64 0] := rfl
theorem arr_ten (g : Nat → Int) : arrC g 10 = #[.int .i64 (g 0), .int .i64 (g 1), .int .i64 (g 2), .int .i64 (g 3), .int .i64 (g 4), .int .i64 (g 5), .int .i64 (g 6), .int .i64 (g 7), .int .i64 (g 8), .int .i64 (g 9)] := rfl
theorem arr_get (g : Nat → Int) (k : Nat) (hk : k < 10) : (arrC g k)[k]? = some (.int .i64 0) := by
  have : k = 0 ∨ k = 1 ∨ k = 2 ∨ k = 3 ∨ k = 4 ∨ k = 5 ∨ k = 6 ∨ k = 7 ∨ k = 8 ∨ k = 9 := by omega
  rcases this with rfl | rfl | rfl | rfl | rfl | rfl | rfl | rfl | rfl | rfl <;> rfl
/-- What stands behind k numbers. -/
def tailL (A : List Int) (t : ByteArray) : List UInt8 := vB A.length ++ (tsB A A.length ++ (vB t.size ++ t.data.toList))
def restL (g : Nat → Int) (A : List Int) (t : ByteArray) (k : Nat) : List UInt8 := ((List.range 10).drop k).flatMap (fun i => vB (g i).toNat) ++ tailL A t
theorem rest_step (g : Nat → Int) (A : List Int) (t : ByteArray) (k : Nat) (hk : k < 10) : restL g A t k = vB (g k).toNat ++ restL g A t (k + 1) := by
  unfold restL
  rw [List.drop_eq_getElem_cons (by simpa using hk), List.flatMap_cons, List.append_assoc]
  simp
theorem rest_ten (g : Nat → Int) (A : List Int) (t : ByteArray) : restL g A t 10 = tailL A t := by
  unfold restL; rw [List.drop_of_length_le (by simp)]; rfl
theorem rest_zero (g : Nat → Int) (A : List Int) (t : ByteArray) : restL g A t 0 = mL g A t := by
  rw [mL_eq]; unfold restL tailL nsB
  simp [List.append_assoc]
theorem restW_len {g : Nat → Int} {A : List Int} {t : ByteArray} (h : Rt g A t.size) (k : Nat) (hk : k ≤ 10) : (restL g A t k).length ≤ 50300 := by
  induction k with
  | zero => rw [rest_zero]; exact mL_len h
  | succ k ih =>
    have := ih (by omega)
    rw [rest_step g A t k (by omega), List.length_append] at this
    omega
theorem tk_back {A : List Int} (h : ∀ k, 0 ≤ el A k ∧ el A k ≤ 255) : tkL (tsB A A.length) = A := by
  unfold tkL tsB
  rw [List.take_length, List.map_map]
  conv => rhs; rw [← List.map_id A]
  apply List.map_congr_left
  intro x hx
  obtain ⟨k, hk, rfl⟩ := List.getElem_of_mem hx
  have := h k
  unfold el at this
  rw [List.getD_eq_getElem?_getD, List.getElem?_eq_getElem hk] at this
  simp only [Option.getD_some] at this
  simp only [Function.comp, UInt8.toNat_ofNat', id_eq]
  omega
set_option maxRecDepth 20000 in
set_option maxHeartbeats 2000000 in
theorem parse_ok (g : Nat → Int) (A : List Int) (t s : ByteArray) (w : World) (hR : Rt g A t.size) (hs : s = txt (mL g A t)) :
   Calls Tryd.prog 22 #[.string s] w fun e w' => ∃ ao c, e = .returned (.tuple #[msgV g (.slice ao A.length c) t, .nilIface]) ∧ IArg w' ao A.length c A ∧ (∀ ad, ao = some ad → w.heap.size ≤ ad.block) ∧ Below w.heap.size w w' := by
  have X0 := blk_new w 50 #[.int .i64 0, .int .i64 0, .int .i64 0, .int .i64 0, .int .i64 0, .int .i64 0, .int .i64 0, .int .i64 0, .int .i64 0, .int .i64 0, .slice none 0 0, .string ⟨#[]⟩]
  have B0 : Below w.heap.size w (w.alloc (.cells #[.int .i64 0, .int .i64 0, .int .i64 0, .int .i64 0, .int .i64 0, .int .i64 0, .int .i64 0, .int .i64 0, .int .i64 0, .int .i64 0, .slice none 0 0, .string ⟨#[]⟩] 50)) := below_alloc _ _
  have s0 : (w.alloc (.cells #[.int .i64 0, .int .i64 0, .int .i64 0, .int .i64 0, .int .i64 0, .int .i64 0, .int .i64 0, .int .i64 0, .int .i64 0, .int .i64 0, .slice none 0 0, .string ⟨#[]⟩] 50)).heap.size = w.heap.size + 1 := by simp
  generalize hw0 : w.alloc (.cells #[.int .i64 0, .int .i64 0, .int .i64 0, .int .i64 0, .int .i64 0, .int .i64 0, .int .i64 0, .int .i64 0, .int .i64 0, .int .i64 0, .slice none 0 0, .string ⟨#[]⟩] 50) = w0 at *
  have X1 := blk_new w0 63 #[.int .i64 0, .int .i64 0, .int .i64 0, .int .i64 0, .int .i64 0, .int .i64 0, .int .i64 0, .int .i64 0, .int .i64 0, .int .i64 0]
  have B1 : Below w0.heap.size w0 (w0.alloc (.cells #[.int .i64 0, .int .i64 0, .int .i64 0, .int .i64 0, .int .i64 0, .int .i64 0, .int .i64 0, .int .i64 0, .int .i64 0, .int .i64 0] 63)) := below_alloc _ _
  have s1 : (w0.alloc (.cells #[.int .i64 0, .int .i64 0, .int .i64 0, .int .i64 0, .int .i64 0, .int .i64 0, .int .i64 0, .int .i64 0, .int .i64 0, .int .i64 0] 63)).heap.size = w0.heap.size + 1 := by simp
  generalize hw1 : w0.alloc (.cells #[.int .i64 0, .int .i64 0, .int .i64 0, .int .i64 0, .int .i64 0, .int .i64 0, .int .i64 0, .int .i64 0, .int .i64 0, .int .i64 0] 63) = w1 at *
  replace X0 := X0.next B1
  have D := below_then B0 B1
  have S0 : Hid (w0.heap.size = w.heap.size + 1 ∧ w1.heap.size = w.heap.size + 2) := ⟨s0, by omega⟩
  have HS : Hid (s = txt (mL g A t)) := hs
  clear B0 B1 s0 s1 hs
  go_enter Tryd.func22, Tryd.ntmps22
  go_wp2_with fail
  clear hw0 hw1
  go_loopg [5, 6, 11] 10 (fun r b e i wr => ∃ k : Nat, k ≤ 10 ∧ r = 10 - k ∧ i = .int .i64 (k : Int) ∧ b = .string (txt (restL g A t k)) ∧ e = .int .i64 0 ∧ Blk wr w0.heap.size 63 (arrC g k) ∧ Blk wr w.heap.size 50 #[.int .i64 0, .int .i64 0, .int .i64 0, .int .i64 0, .int .i64 0, .int .i64 0, .int .i64 0, .int .i64 0, .int .i64 0, .int .i64 0, .slice none 0 0, .string ⟨#[]⟩] ∧ Below w.heap.size w wr ∧ w.heap.size + 2 ≤ wr.heap.size)
  case atStart => exact ⟨0, by omega, by omega, rfl, by rw [rest_zero, HS.out], rfl, X1, X0, D, by have := S0.out; omega⟩
  case round =>
    clear X0 X1 D
    obtain ⟨k, hk, rfl, rfl, rfl, rfl, XA, XM, D, hz⟩ := hrel
    have hrl := restW_len hR k hk
    by_cases hk1 : k < 10
    · have hr := hR.num k hk1
      obtain ⟨m, hm⟩ : ∃ m : Nat, m = (g k).toNat := ⟨_, rfl⟩
      have hgm : g k = (m : Int) := by omega
      have hst := rest_step g A t k hk1
      rw [← hm] at hst
      have hT := takeG_num (restL g A t (k + 1)) m (by omega)
      have TK := takeW_ok (txt (restL g A t k)) m (vB m).length wr (by rw [txt_size]; omega) (by rw [txt_list, hst]; exact hT)
      rw [txt_list, hst, List.drop_left] at TK
      rw [← hst] at TK
      have HA : Hid ((arrC g k).setIfInBounds k (.int .i64 (m : Int)) = arrC g (k + 1)) := by show _ = _; rw [← hgm]; exact arr_set g k hk1
      have HC : Hid ((arrC g k)[k]? = some (.int .i64 0)) := arr_get g k hk1
      clear hm hgm hst hT hr hrl
      generalize txt (restL g A t k) = Y at *
      generalize hY2 : txt (restL g A t (k + 1)) = Y2 at *
      have HY2 : Hid (txt (restL g A t (k + 1)) = Y2) := hY2
      clear hY2
      go_wp2_with (go_at_call 34; refine TK.mono ?_; rintro e w2 ⟨rfl, d, hw2⟩; have B2 : Below wr.heap.size wr w2 := by { rw [hw2]; exact below_drewN (Below.refl _ _) _ }; clear hw2; have XA2 := XA.next B2; have XM2 := XM.next B2; have c2 : w2.cell? ⟨w0.heap.size, k, none⟩ = some (.int .i64 0) := XA2.cell k HC.out; have f2 : w2.frozen? ⟨w0.heap.size, k, none⟩ = false := XA2.frozen k)
      go_roundg (10 - (k + 1))
      case measure => omega
      case rel =>
        refine ⟨k + 1, by omega, rfl, by go_num, by rw [HY2.out], rfl, ?_, XM2.other (by show w.heap.size ≠ w0.heap.size; have := S0.out; omega) _, (below_then D B2).setCell (by show w.heap.size ≤ w0.heap.size; have := S0.out; omega) _, ?_⟩
        · rw [← HA.out]; exact XA2.set k _
        · simp only [World.setCell, Array.size_modify]
          exact Nat.le_trans hz B2.size
    · obtain rfl : k = 10 := by omega
      rw [rest_ten] at hrl
      rw [rest_ten]
      rw [arr_ten] at XA
      have hn := hR.few
      have hz5 := hR.len
      have hts := tsB_len A A.length (by omega)
      have htl : t.data.toList.length = t.size := rfl
      have K1 := takeBytes_ok (txt (tailL A t)) A.length (vB A.length).length wr (by rw [txt_size]; omega) (by rw [txt_list]; exact takeG_num _ _ (by omega)) (by rw [txt_list]; unfold tailL; rw [List.drop_left, List.length_append]; omega)
      rw [txt_list, show (tailL A t).drop (vB A.length).length = tsB A A.length ++ (vB t.size ++ t.data.toList) by unfold tailL; rw [List.drop_left], List.take_left' hts, List.drop_left' hts] at K1
      have hl2 : (vB t.size ++ t.data.toList).length ≤ 50300 := by
        have : (tailL A t).length = (vB A.length).length + ((tsB A A.length).length + (vB t.size ++ t.data.toList).length) := by unfold tailL; simp only [List.length_append]
        omega
      have K2 := fun W => takeBytes_ok (txt (vB t.size ++ t.data.toList)) t.size (vB t.size).length W (by rw [txt_size]; omega) (by rw [txt_list]; exact takeG_num _ _ (by omega)) (by rw [txt_list, List.drop_left]; omega)
      rw [txt_list, List.drop_left, List.take_of_length_le (by omega), List.drop_of_length_le (by omega), show txt ([] : List UInt8) = ⟨#[]⟩ from rfl, txt_of] at K2
      have K3 := fun W => messageOf_ok g (txt (tsB A A.length)) t W (by rw [txt_size]; omega)
      rw [txt_list, txt_size, hts, tk_back hR.tok] at K3
      have one := fun ao c => msg_one g ao A.length c t
      generalize txt (tailL A t) = Y1 at *
      generalize txt (vB t.size ++ t.data.toList) = Y2 at *
      generalize txt (tsB A A.length) = Y3 at *
      clear hrl hts htl hl2 hk hk1 hz
      go_wp2_with (first
        | (go_at_call_of 35 Y1; refine K1.mono ?_; rintro e w2 ⟨rfl, B2⟩; have XA2 := XA.next B2; have XM2 := XM.next B2)
        | (go_at_call_of 35 Y2; refine (K2 _).mono ?_; rintro e w3 ⟨rfl, B3⟩; have XA3 := XA2.next B3; have XM3 := XM2.next B3)
        | (refine wpList_load_row rfl 63 _ rfl w0.heap.size rfl 63 #[.int .i64 (g 0), .int .i64 (g 1), .int .i64 (g 2), .int .i64 (g 3), .int .i64 (g 4), .int .i64 (g 5), .int .i64 (g 6), .int .i64 (g 7), .int .i64 (g 8), .int .i64 (g 9)] (0, 0) _ XA3 Tryd.underlying63 rfl Tryd.infoTen ?_)
        | (go_at_call 36; refine (K3 _).mono ?_; rintro e w4 ⟨ao, c, rfl, AR, NW, B4⟩; have XM4 := XM3.next B4; have on := one ao c)
        | (refine wpList_store_row rfl 50 _ _ rfl w.heap.size (msgC g (.slice ao A.length c) t) rfl rfl 50 _ XM4 Tryd.infoMsg rfl on ?_))
      have lt3 := XM3.lt
      have D3 := below_then (below_then D B2) B3
      have s3 := D3.size
      refine bodyPost_ret (results_blk2 rfl _ _ w.heap.size _ rfl (load_msg (XM4.row _) rfl)) rfl ?_
      exact ⟨ao, c, rfl, AR.row' (fun _ ad e => by have := NW ad e; omega) _, fun ad e => by have := NW ad e; omega, below_setRow (below_then D3 B4) (Nat.le_refl _) _⟩
set_option maxRecDepth 20000 in
set_option maxHeartbeats 1000000 in
theorem read_bad (s : ByteArray) (p n : Nat) (w : World) (hE : Env w) (hs : s.size ≤ 281474976710656) (hf : fltN s.data.toList = some (p, n)) :
   Calls Tryd.prog 11 #[.string s] w fun e w' => e = .returned (.tuple #[.agg #[.int .i64 0, .int .i64 0, .int .i64 0, .int .i64 0, .int .i64 0, .int .i64 0, .int .i64 0, .int .i64 0, .int .i64 0, .int .i64 0, .slice none 0 0, .string ⟨#[]⟩], eB 0 (eF p n)]) ∧ Below w.heap.size w w' := by
  have X0 := blk_new w 50 #[.int .i64 0, .int .i64 0, .int .i64 0, .int .i64 0, .int .i64 0, .int .i64 0, .int .i64 0, .int .i64 0, .int .i64 0, .int .i64 0, .slice none 0 0, .string ⟨#[]⟩]
  have B0 : Below w.heap.size w (w.alloc (.cells #[.int .i64 0, .int .i64 0, .int .i64 0, .int .i64 0, .int .i64 0, .int .i64 0, .int .i64 0, .int .i64 0, .int .i64 0, .int .i64 0, .slice none 0 0, .string ⟨#[]⟩] 50)) := below_alloc _ _
  generalize hw0 : w.alloc (.cells #[.int .i64 0, .int .i64 0, .int .i64 0, .int .i64 0, .int .i64 0, .int .i64 0, .int .i64 0, .int .i64 0, .int .i64 0, .int .i64 0, .slice none 0 0, .string ⟨#[]⟩] 50) = w0 at *
  have U := unpack_any s w0 (hE.next B0) hs
  unfold UnR at U
  rw [show unT s.data.toList = [] by unfold unT; rw [hf], show unE s.data.toList = eF p n by unfold unE; rw [hf], show txt ([] : List UInt8) = ⟨#[]⟩ from rfl] at U
  have one : Array.all (#[.int .i64 0, .int .i64 0, .int .i64 0, .int .i64 0, .int .i64 0, .int .i64 0, .int .i64 0, .int .i64 0, .int .i64 0, .int .i64 0, .slice none 0 0, .string ⟨#[]⟩] : Array Value) (fun v => v.oneCell') = true := by simp [Value.oneCell']
  clear hE hf
  go_enter Tryd.func11, Tryd.ntmps11
  go_wp2_with (first
    | (go_at_call 21; refine U.mono ?_; rintro e w2 ⟨rfl, B2⟩; have X2 := X0.next B2)
    | (refine wpList_store_row rfl 50 _ _ rfl w.heap.size #[.int .i64 0, .int .i64 0, .int .i64 0, .int .i64 0, .int .i64 0, .int .i64 0, .int .i64 0, .int .i64 0, .int .i64 0, .int .i64 0, .slice none 0 0, .string ⟨#[]⟩] rfl rfl 50 _ X2 Tryd.infoMsg rfl one ?_))
  refine bodyPost_ret (results_blk2 rfl _ _ w.heap.size _ rfl (load_msg (X2.row _) rfl)) rfl ?_
  exact ⟨rfl, below_setRow (below_then B0 B2) (Nat.le_refl _) _⟩
set_option maxRecDepth 20000 in
set_option maxHeartbeats 1000000 in
theorem read_ok (g : Nat → Int) (A : List Int) (t s : ByteArray) (w : World) (hE : Env w) (hc : (chkN g A t.size).1 = 0) (hs : s = txt (packL (mL g A t))) :
   Calls Tryd.prog 11 #[.string s] w fun e w' => ∃ ao c, e = .returned (.tuple #[msgV g (.slice ao A.length c) t, .nilIface]) ∧ IArg w' ao A.length c A ∧ (∀ ad, ao = some ad → w.heap.size ≤ ad.block) ∧ Below w.heap.size w w' := by
  obtain ⟨hR, hc2⟩ := rt_of_chk hc
  have X0 := blk_new w 50 #[.int .i64 0, .int .i64 0, .int .i64 0, .int .i64 0, .int .i64 0, .int .i64 0, .int .i64 0, .int .i64 0, .int .i64 0, .int .i64 0, .slice none 0 0, .string ⟨#[]⟩]
  have B0 : Below w.heap.size w (w.alloc (.cells #[.int .i64 0, .int .i64 0, .int .i64 0, .int .i64 0, .int .i64 0, .int .i64 0, .int .i64 0, .int .i64 0, .int .i64 0, .int .i64 0, .slice none 0 0, .string ⟨#[]⟩] 50)) := below_alloc _ _
  generalize hw0 : w.alloc (.cells #[.int .i64 0, .int .i64 0, .int .i64 0, .int .i64 0, .int .i64 0, .int .i64 0, .int .i64 0, .int .i64 0, .int .i64 0, .int .i64 0, .slice none 0 0, .string ⟨#[]⟩] 50) = w0 at *
  have hml := mL_len hR
  have u1 := un_pack (mL g A t) (by omega)
  have u2 := flt_pack (mL g A t) (by omega)
  have U := unpack_any s w0 (hE.next B0) (by rw [hs, txt_size, packL_length]; omega)
  unfold UnR at U
  rw [show s.data.toList = packL (mL g A t) by rw [hs, txt_list], u1, show unE (packL (mL g A t)) = .nilIface by unfold unE; rw [u2]] at U
  have P := fun W => parse_ok g A t (txt (mL g A t)) W hR rfl
  have hg : ∀ k, k < 10 → -9223372036854775808 ≤ g k ∧ g k ≤ 9223372036854775807 := fun k hk => by have := hR.num k hk; omega
  have C := fun W ao c (hA : IArg W ao A.length c A) => check_any g ao A.length c A t W hA hg
  unfold ChkR at C
  rw [hc2, show chkE (0, -1) = .nilIface from rfl] at C
  have one := fun ao c => msg_one g ao A.length c t
  generalize txt (mL g A t) = Y at *
  clear hE hc hc2 hs u1 u2 hml hg hR
  go_enter Tryd.func11, Tryd.ntmps11
  go_wp2_with (first
    | (go_at_call 21; refine U.mono ?_; rintro e w2 ⟨rfl, B2⟩; have X2 := X0.next B2)
    | (go_at_call 22; refine (P _).mono ?_; rintro e w3 ⟨ao, c, rfl, AR, NW, B3⟩; have X3 := X2.next B3; have on := one ao c; have B4 : Below w3.heap.size w3 (w3.alloc (.cells #[.int .i64 0, .int .i64 0, .int .i64 0, .int .i64 0, .int .i64 0, .int .i64 0, .int .i64 0, .int .i64 0, .int .i64 0, .int .i64 0, .slice none 0 0, .string ⟨#[]⟩] 50)) := below_alloc _ _; have Y4 := blk_new w3 50 #[.int .i64 0, .int .i64 0, .int .i64 0, .int .i64 0, .int .i64 0, .int .i64 0, .int .i64 0, .int .i64 0, .int .i64 0, .int .i64 0, .slice none 0 0, .string ⟨#[]⟩]; have X4 := X3.next B4; have R4 := AR.below B4; have n4 := X3.lt; generalize hw4 : w3.alloc (.cells #[.int .i64 0, .int .i64 0, .int .i64 0, .int .i64 0, .int .i64 0, .int .i64 0, .int .i64 0, .int .i64 0, .int .i64 0, .int .i64 0, .slice none 0 0, .string ⟨#[]⟩] 50) = w4 at *)
    | (refine wpList_store_row rfl 50 _ _ rfl w3.heap.size (msgC g (.slice ao A.length c) t) rfl rfl 50 _ Y4 Tryd.infoMsg rfl on ?_; have Y5 := Y4.row (msgC g (.slice ao A.length c) t); have X5 : Blk (w4.setRow w3.heap.size (msgC g (.slice ao A.length c) t)) w.heap.size 50 #[.int .i64 0, .int .i64 0, .int .i64 0, .int .i64 0, .int .i64 0, .int .i64 0, .int .i64 0, .int .i64 0, .int .i64 0, .int .i64 0, .slice none 0 0, .string ⟨#[]⟩] := X4.of_block (setRow_other _ _ _ _ (by omega)); have R5 : IArg (w4.setRow w3.heap.size (msgC g (.slice ao A.length c) t)) ao A.length c A := R4.row' (fun hn ad e => by have := AR.lt hn ad e; omega) _; generalize hw5 : w4.setRow w3.heap.size (msgC g (.slice ao A.length c) t) = w5 at *)
    | (refine wpList_load_row rfl 50 _ rfl w3.heap.size rfl 50 (msgC g (.slice ao A.length c) t) (0, 0) _ Y5 Tryd.underlying50 rfl Tryd.infoMsg ?_)
    | (go_at_call 17; refine (C _ _ _ R5).mono ?_; rintro e w6 ⟨rfl, B6⟩; have X6 := X5.next B6; have Y6 := Y5.next B6; have R6 := R5.below B6)
    | (refine wpList_load_row rfl 50 _ rfl w3.heap.size rfl 50 (msgC g (.slice ao A.length c) t) (0, 0) _ Y6 Tryd.underlying50 rfl Tryd.infoMsg ?_)
    | (refine wpList_store_row rfl 50 _ _ rfl w.heap.size (msgC g (.slice ao A.length c) t) rfl rfl 50 _ X6 Tryd.infoMsg rfl on ?_))
  have D2 := below_then B0 B2
  have s2 := D2.size
  have D4 := below_then (below_then D2 B3) B4
  have D5 : Below w.heap.size w w5 := by
    rw [← hw5]
    exact below_setRow D4 (by omega) _
  have lt0 := X0.lt
  have s02 := B2.size
  refine bodyPost_ret (results_blk2 rfl _ _ w.heap.size _ rfl (load_msg (X6.row _) rfl)) rfl ?_
  exact ⟨ao, c, rfl, R6.row' (fun _ ad e => by have := NW ad e; omega) _, fun ad e => by have := NW ad e; omega, below_setRow (below_then D5 B6) (Nat.le_refl _) _⟩
end Go.Proofs.YtdopcagikcdfcaaDoor
