/- WireNumbers' walk: any numbers in range go, each in its place. -/
import Derived.Test.YtmcjcmddijikbaaDoorWireApartWalk
namespace Go.Proofs.YtmcjcmddijikbaaDoor
open Go.ChangeShapes Go.WideShapes Go.ChangeAt Go.RowKit
/-- The numbers of the message behind k rounds. -/
def gk (l : List Int) (k : Nat) : Nat → Int := fun j => if j = 0 then 2 else if j ≤ k then el l (j - 1) else 0
theorem gk_set (l : List Int) (k : Nat) (hk : k < 9) (s : Value) (t : ByteArray) : (msgC (gk l k) s t).setIfInBounds (k + 1) (.int .i64 (el l k)) = msgC (gk l (k + 1)) s t := by
  have : k = 0 ∨ k = 1 ∨ k = 2 ∨ k = 3 ∨ k = 4 ∨ k = 5 ∨ k = 6 ∨ k = 7 ∨ k = 8 := by omega
  rcases this with rfl | rfl | rfl | rfl | rfl | rfl | rfl | rfl | rfl <;> rfl
theorem gk_get (l : List Int) (k : Nat) (hk : k < 9) (s : Value) (t : ByteArray) : (msgC (gk l k) s t)[k + 1]? = some (.int .i64 0) := by
  have : k = 0 ∨ k = 1 ∨ k = 2 ∨ k = 3 ∨ k = 4 ∨ k = 5 ∨ k = 6 ∨ k = 7 ∨ k = 8 := by omega
  rcases this with rfl | rfl | rfl | rfl | rfl | rfl | rfl | rfl | rfl <;> rfl
theorem ptr_get (w : World) (k : Nat) (hk : k < 9) : (#[.pointer (some ⟨w.heap.size, 1, none⟩), .pointer (some ⟨w.heap.size, 2, none⟩), .pointer (some ⟨w.heap.size, 3, none⟩), .pointer (some ⟨w.heap.size, 4, none⟩), .pointer (some ⟨w.heap.size, 5, none⟩), .pointer (some ⟨w.heap.size, 6, none⟩), .pointer (some ⟨w.heap.size, 7, none⟩), .pointer (some ⟨w.heap.size, 8, none⟩), .pointer (some ⟨w.heap.size, 9, none⟩)] : Array Value)[k]? = some (.pointer (some ⟨w.heap.size, k + 1, none⟩)) := by
  have : k = 0 ∨ k = 1 ∨ k = 2 ∨ k = 3 ∨ k = 4 ∨ k = 5 ∨ k = 6 ∨ k = 7 ∨ k = 8 := by omega
  rcases this with rfl | rfl | rfl | rfl | rfl | rfl | rfl | rfl | rfl <;> rfl
theorem gk_ok (l : List Int) (k : Nat) (h : ∀ j, j < k → 0 ≤ el l j ∧ el l j ≤ 1099511627776) : ∀ i, i < 10 → 0 ≤ gk l k i ∧ gk l k i ≤ 1099511627776 := by
  intro i _
  unfold gk
  split
  · omega
  · split
    · exact h (i - 1) (by omega)
    · omega
theorem gk_chk (l : List Int) (k : Nat) (h : ∀ j, j < k → 0 ≤ el l j ∧ el l j ≤ 1099511627776) : (chkN (gk l k) [] (ByteArray.mk #[]).size).1 = 0 := by
  have h0 : gk l k 0 = 2 := rfl
  rw [chk_rest (by rw [h0]; omega) (fun j hj => by have := gk_ok l k h j hj; simp [badI]; omega)]
  rfl
theorem cut_nil : cutT ⟨#[]⟩ = ⟨#[]⟩ := rfl
set_option maxRecDepth 100000 in
set_option maxHeartbeats 4000000 in
theorem wireNumbers_walk (ao : Option Addr) (n ca : Nat) (l : List Int) (w : World) (hA : IArg w ao n ca l) (hE : Env w) :
   Calls Tryd.prog 8 #[.slice ao n ca] w fun e w' => e = .returned (.bool true) ∧ Below w.heap.size w w' := by
  have AW := fun W (hW : Env W) => awake15_any W hW
  have X0 := blk_new w 24 #[.int .i64 0, .int .i64 0, .int .i64 0, .int .i64 0, .int .i64 0, .int .i64 0, .int .i64 0, .int .i64 0, .int .i64 0, .int .i64 0, .slice none 0 0, .string ⟨#[]⟩]
  have B0 : Below w.heap.size w (w.alloc (.cells #[.int .i64 0, .int .i64 0, .int .i64 0, .int .i64 0, .int .i64 0, .int .i64 0, .int .i64 0, .int .i64 0, .int .i64 0, .int .i64 0, .slice none 0 0, .string ⟨#[]⟩] 24)) := below_alloc _ _
  have s0 : (w.alloc (.cells #[.int .i64 0, .int .i64 0, .int .i64 0, .int .i64 0, .int .i64 0, .int .i64 0, .int .i64 0, .int .i64 0, .int .i64 0, .int .i64 0, .slice none 0 0, .string ⟨#[]⟩] 24)).heap.size = w.heap.size + 1 := by simp
  generalize hw0 : w.alloc (.cells #[.int .i64 0, .int .i64 0, .int .i64 0, .int .i64 0, .int .i64 0, .int .i64 0, .int .i64 0, .int .i64 0, .int .i64 0, .int .i64 0, .slice none 0 0, .string ⟨#[]⟩] 24) = w0 at *
  have on : Array.all (#[.int .i64 2, .int .i64 0, .int .i64 0, .int .i64 0, .int .i64 0, .int .i64 0, .int .i64 0, .int .i64 0, .int .i64 0, .int .i64 0, .slice none 0 0, .string ⟨#[]⟩] : Array Value) (fun v => v.oneCell') = true := by simp [Value.oneCell']
  have HV : Hid (∀ W, Below w.heap.size w W → Env W) := fun W hW => hE.next hW
  have HA : Hid (∀ W, Below w.heap.size w W → IArg W ao n ca l) := fun W hW => hA.below hW
  have S0 : Hid (w0.heap.size = w.heap.size + 1) := s0
  have hl := hA.row.len
  have hmx := hA.row.max
  clear s0 hE hA
  go_enter Tryd.func8, Tryd.ntmps8
  go_wp2_with (refine wpList_store_row rfl 24 _ _ rfl w.heap.size #[.int .i64 2, .int .i64 0, .int .i64 0, .int .i64 0, .int .i64 0, .int .i64 0, .int .i64 0, .int .i64 0, .int .i64 0, .int .i64 0, .slice none 0 0, .string ⟨#[]⟩] rfl rfl 24 _ X0 Tryd.infoMsg rfl on ?_; have X1 := X0.row #[.int .i64 2, .int .i64 0, .int .i64 0, .int .i64 0, .int .i64 0, .int .i64 0, .int .i64 0, .int .i64 0, .int .i64 0, .int .i64 0, .slice none 0 0, .string ⟨#[]⟩]; have D1 := below_setRow B0 (Nat.le_refl _) #[.int .i64 2, .int .i64 0, .int .i64 0, .int .i64 0, .int .i64 0, .int .i64 0, .int .i64 0, .int .i64 0, .int .i64 0, .int .i64 0, .slice none 0 0, .string ⟨#[]⟩]; have z1 : (w0.setRow w.heap.size #[.int .i64 2, .int .i64 0, .int .i64 0, .int .i64 0, .int .i64 0, .int .i64 0, .int .i64 0, .int .i64 0, .int .i64 0, .int .i64 0, .slice none 0 0, .string ⟨#[]⟩]).heap.size = w.heap.size + 1 := (by simp [World.setRow]; exact S0.out); generalize hw1 : w0.setRow w.heap.size #[.int .i64 2, .int .i64 0, .int .i64 0, .int .i64 0, .int .i64 0, .int .i64 0, .int .i64 0, .int .i64 0, .int .i64 0, .int .i64 0, .slice none 0 0, .string ⟨#[]⟩] = w1 at *)
  have X2 := X1.next (below_alloc w1 (.cells #[.pointer (some ⟨w.heap.size, 1, none⟩), .pointer (some ⟨w.heap.size, 2, none⟩), .pointer (some ⟨w.heap.size, 3, none⟩), .pointer (some ⟨w.heap.size, 4, none⟩), .pointer (some ⟨w.heap.size, 5, none⟩), .pointer (some ⟨w.heap.size, 6, none⟩), .pointer (some ⟨w.heap.size, 7, none⟩), .pointer (some ⟨w.heap.size, 8, none⟩), .pointer (some ⟨w.heap.size, 9, none⟩)] 64))
  have P2 := blk_new w1 64 #[.pointer (some ⟨w.heap.size, 1, none⟩), .pointer (some ⟨w.heap.size, 2, none⟩), .pointer (some ⟨w.heap.size, 3, none⟩), .pointer (some ⟨w.heap.size, 4, none⟩), .pointer (some ⟨w.heap.size, 5, none⟩), .pointer (some ⟨w.heap.size, 6, none⟩), .pointer (some ⟨w.heap.size, 7, none⟩), .pointer (some ⟨w.heap.size, 8, none⟩), .pointer (some ⟨w.heap.size, 9, none⟩)]
  have D2 := below_alloc2 D1 (.cells #[.pointer (some ⟨w.heap.size, 1, none⟩), .pointer (some ⟨w.heap.size, 2, none⟩), .pointer (some ⟨w.heap.size, 3, none⟩), .pointer (some ⟨w.heap.size, 4, none⟩), .pointer (some ⟨w.heap.size, 5, none⟩), .pointer (some ⟨w.heap.size, 6, none⟩), .pointer (some ⟨w.heap.size, 7, none⟩), .pointer (some ⟨w.heap.size, 8, none⟩), .pointer (some ⟨w.heap.size, 9, none⟩)] 64)
  rw [z1] at P2
  generalize w1.alloc (.cells #[.pointer (some ⟨w.heap.size, 1, none⟩), .pointer (some ⟨w.heap.size, 2, none⟩), .pointer (some ⟨w.heap.size, 3, none⟩), .pointer (some ⟨w.heap.size, 4, none⟩), .pointer (some ⟨w.heap.size, 5, none⟩), .pointer (some ⟨w.heap.size, 6, none⟩), .pointer (some ⟨w.heap.size, 7, none⟩), .pointer (some ⟨w.heap.size, 8, none⟩), .pointer (some ⟨w.heap.size, 9, none⟩)] 64) = w2 at *
  clear X0 X1 D1 B0 hw0 hw1 z1
  go_loopg [5] 9 (fun r i wr => ∃ k : Nat, k ≤ 9 ∧ k ≤ n ∧ r = 9 - k ∧ i = .int .i64 (k : Int) ∧ (∀ j, j < k → 0 ≤ el l j ∧ el l j ≤ 1099511627776) ∧ Blk wr w.heap.size 24 (msgC (gk l k) (.slice none 0 0) ⟨#[]⟩) ∧ Blk wr (w.heap.size + 1) 64 #[.pointer (some ⟨w.heap.size, 1, none⟩), .pointer (some ⟨w.heap.size, 2, none⟩), .pointer (some ⟨w.heap.size, 3, none⟩), .pointer (some ⟨w.heap.size, 4, none⟩), .pointer (some ⟨w.heap.size, 5, none⟩), .pointer (some ⟨w.heap.size, 6, none⟩), .pointer (some ⟨w.heap.size, 7, none⟩), .pointer (some ⟨w.heap.size, 8, none⟩), .pointer (some ⟨w.heap.size, 9, none⟩)] ∧ Below w.heap.size w wr)
  case atStart => exact ⟨0, by omega, by omega, rfl, rfl, fun j hj => by omega, X2, P2, D2⟩
  case round =>
    clear X2 P2 D2
    obtain ⟨k, hk, hkn, rfl, rfl, hj, XM, XP, D⟩ := hrel
    have V := HV.out wr D
    by_cases hk9 : k < n ∧ k < 9
    · obtain ⟨q1, q2⟩ := hk9
      have hA := HA.out wr D
      obtain ⟨b, o, rfl, hc⟩ := hA.row.cells (by omega)
      have hck := hc k q1
      have hsm := hA.row.small k
      have HJ : Hid (0 ≤ el l k ∧ el l k ≤ 1099511627776 → ∀ j, j < k + 1 → 0 ≤ el l j ∧ el l j ≤ 1099511627776) := fun e j hj2 => by
        rcases Nat.lt_or_ge j k with q | q
        · exact hj j q
        · obtain rfl : j = k := by omega
          exact e
      have HS : Hid ((msgC (gk l k) (.slice none 0 0) ⟨#[]⟩).setIfInBounds (k + 1) (.int .i64 (el l k)) = msgC (gk l (k + 1)) (.slice none 0 0) ⟨#[]⟩) := gk_set l k q2 _ _
      have cp : wr.cell? ⟨w.heap.size + 1, k, none⟩ = some (.pointer (some ⟨w.heap.size, k + 1, none⟩)) := XP.cell k (ptr_get w k q2)
      have cm : wr.cell? ⟨w.heap.size, k + 1, none⟩ = some (.int .i64 0) := XM.cell (k + 1) (gk_get l k q2 _ _)
      have fm := XM.frozen (k + 1)
      have HX : Hid (∀ x, el l k = x → Blk (wr.setCell ⟨w.heap.size, k + 1, none⟩ (.int .i64 x)) w.heap.size 24 (msgC (gk l (k + 1)) (.slice none 0 0) ⟨#[]⟩)) := fun x e => by rw [← HS.out, e]; exact XM.set (k + 1) _
      have hkn' : (k : Int) < (n : Int) := by omega
      have hk9' : (k : Int) < 9 := by omega
      have HXX : Hid (∀ x, el l k = x → (0 ≤ x ∧ x ≤ 1099511627776) → 0 ≤ el l k ∧ el l k ≤ 1099511627776) := fun x e h => by rw [e]; exact h
      generalize hx : el l k = x at hck hsm
      have HXE : Hid (el l k = x) := hx
      clear hx hc hA hj HS XM
      by_cases m1 : x < 0
      · go_wp2_with (go_at_call 14; refine (AW _ V).mono ?_; rintro e w3 ⟨rfl, B3⟩)
        go_ret
        exact ⟨rfl, below_then D B3⟩
      by_cases m2 : 1099511627776 < x
      · go_wp2_with (go_at_call 14; refine (AW _ V).mono ?_; rintro e w3 ⟨rfl, B3⟩)
        go_ret
        exact ⟨rfl, below_then D B3⟩
      go_wp2_with fail
      go_roundg (9 - (k + 1))
      case measure => omega
      case rel => exact ⟨k + 1, by omega, by omega, rfl, by go_num, HJ.out (HXX.out x HXE.out ⟨by omega, by omega⟩), HX.out x HXE.out, XP.other (by show w.heap.size + 1 ≠ w.heap.size; omega) _, D.setCell (by show w.heap.size ≤ w.heap.size; omega) _⟩
    · have hc := gk_chk l k hj
      have hgo := gk_ok l k hj
      have hg : ∀ i, i < 10 → -9223372036854775808 ≤ gk l k i ∧ gk l k i ≤ 9223372036854775807 := fun i hi => by have := hgo i hi; omega
      have WR := fun W (hE : Env W) => write_ok (gk l k) none 0 0 [] ⟨#[]⟩ W hE (iarg_nil W) hg hc
      have RD := fun W (hE : Env W) => read_ok (gk l k) [] ⟨#[]⟩ (txt (packL (mL (gk l k) [] ⟨#[]⟩))) W hE hc rfl
      have TA := fun W => told_any (gk l k) none 0 0 [] ⟨#[]⟩ W (iarg_nil W)
      have TB := fun W ao c (hW : IArg W ao ([] : List Int).length c []) => told_any (gk l k) ao 0 c [] ⟨#[]⟩ W hW
      rw [show cutA [] = [] from rfl, cut_nil] at TA TB
      have SM := fun W b3 c3 b4 c4 (h3 : IArg W (some ⟨b3, 0, none⟩) ([] : List Int).length c3 []) (h4 : IArg W (some ⟨b4, 0, none⟩) ([] : List Int).length c4 []) => same_any (gk l k) (some ⟨b3, 0, none⟩) 0 c3 [] ⟨#[]⟩ (gk l k) (some ⟨b4, 0, none⟩) 0 c4 [] ⟨#[]⟩ W h3 h4 (by omega) (by omega)
      rw [samM_refl] at SM
      rw [show ([] : List Int).length = 0 from rfl] at RD TA TB SM
      have hend : ¬ ((k : Int) < (n : Int) ∧ (k : Int) < 9) := by omega
      have hd : (decide ((k : Int) < (n : Int)) = true → decide ((k : Int) < 9) = false) := fun q => decide_eq_false (fun q2 => hend ⟨of_decide_eq_true q, q2⟩)
      generalize gk l k = g at *
      generalize txt (packL (mL g [] ⟨#[]⟩)) = Z at *
      clear hc hgo hg hj
      have key : ∀ (P : Prop), ((k : Int) < (n : Int) → ¬ (k : Int) < 9 → P) → (¬ (k : Int) < (n : Int) → P) → P := fun P a b => by
        rcases Int.lt_or_le (k : Int) (n : Int) with q | q
        · exact a q (fun q2 => hend ⟨q, q2⟩)
        · exact b (by omega)
      clear hd hend hk9
      refine key _ (fun k1 k2 => ?_) (fun k1 => ?_)
      all_goals
        go_wp2_with (first
          | (refine wpList_load_row rfl 24 _ rfl w.heap.size rfl 24 (msgC g (.slice none 0 0) ⟨#[]⟩) (0, 0) _ XM Tryd.underlying24 rfl Tryd.infoMsg ?_)
          | (go_at_call 10; refine (WR _ V).mono ?_; rintro e w3 ⟨rfl, B3⟩; have V3 := V.next B3; have X3 := XM.next B3; have D3 := below_then D B3)
          | (go_at_call 18; refine (RD _ V3).mono ?_; rintro e w4 ⟨a9, c9, rfl, Q4, nb4, B4⟩; have V4 := V3.next B4; have X4 := X3.next B4; have D4 := below_then D3 B4; have one := msg_one g a9 0 c9 ⟨#[]⟩; have Y4 := blk_new w4 24 #[.int .i64 0, .int .i64 0, .int .i64 0, .int .i64 0, .int .i64 0, .int .i64 0, .int .i64 0, .int .i64 0, .int .i64 0, .int .i64 0, .slice none 0 0, .string ⟨#[]⟩]; have B5 : Below w4.heap.size w4 (w4.alloc (.cells #[.int .i64 0, .int .i64 0, .int .i64 0, .int .i64 0, .int .i64 0, .int .i64 0, .int .i64 0, .int .i64 0, .int .i64 0, .int .i64 0, .slice none 0 0, .string ⟨#[]⟩] 24)) := below_alloc _ _; have X5 := X4.next B5; generalize hw5 : w4.alloc (.cells #[.int .i64 0, .int .i64 0, .int .i64 0, .int .i64 0, .int .i64 0, .int .i64 0, .int .i64 0, .int .i64 0, .int .i64 0, .int .i64 0, .slice none 0 0, .string ⟨#[]⟩] 24) = w5 at *)
          | (refine wpList_store_row rfl 24 _ _ rfl w4.heap.size (msgC g (.slice a9 0 c9) ⟨#[]⟩) rfl rfl 24 _ Y4 Tryd.infoMsg rfl one ?_))
        have lt4 := X4.lt
        have Y6 := Y4.row (msgC g (.slice a9 0 c9) ⟨#[]⟩)
        have X6 : Blk (w5.setRow w4.heap.size (msgC g (.slice a9 0 c9) ⟨#[]⟩)) w.heap.size 24 (msgC g (.slice none 0 0) ⟨#[]⟩) := X5.of_block (setRow_other _ _ _ _ (by omega))
        have B6 : Below w4.heap.size w4 (w5.setRow w4.heap.size (msgC g (.slice a9 0 c9) ⟨#[]⟩)) := below_setRow B5 (Nat.le_refl _) _
        have V6 := V4.next B6
        have Q6 := Q4.below B6
        have D6 := below_then D4 B6
        generalize w5.setRow w4.heap.size (msgC g (.slice a9 0 c9) ⟨#[]⟩) = w6 at *
        clear hw5 B5 X5 Y4 X4 V4 D4 V3 X3 D3 Q4 B6 B4 B3 XM XP D V
        refine wp_region_held_drew (S := fun w' => Blk w' w.heap.size 24 (msgC g (.slice none 0 0) ⟨#[]⟩) ∧ Blk w' w4.heap.size 24 (msgC g (.slice a9 0 c9) ⟨#[]⟩)) (by kernel_rfl) (⟨X6, Y6⟩) (fun hHeld => ?_)
        have Dh := D6.drew
        have Xh : Blk w6.drew w.heap.size 24 (msgC g (.slice none 0 0) ⟨#[]⟩) := X6
        have Yh : Blk w6.drew w4.heap.size 24 (msgC g (.slice a9 0 c9) ⟨#[]⟩) := Y6
        have Vh : Env w6.drew := V6.next ((Below.refl _ _).drew)
        replace Q6 := Q6.below ((Below.refl _ w6).drew)
        generalize hWd : w6.drew = wh at *
        clear hWd X6 Y6 V6 D6
        refine wpAnyH_ready (rs := [0]) (by kernel_rfl) (by simp) ?_
        refine AllReadyH.cons rfl (fun Kc hKc => ?_) AllReadyH.nil
        simp only [List.getElem_toArray, List.getElem_cons_zero]
        rw [if_pos (by rfl)]
        go_wp2_with fail
        refine (AW _ Vh).mono ?_
        rintro e wi ⟨rfl, Bi⟩
        replace Xh := Xh.next Bi
        replace Yh := Yh.next Bi
        replace Dh := below_then Dh Bi
        replace Q6 := Q6.below Bi
        go_wp2_with fail
        refine hKc.out _ _ (⟨Xh, Yh⟩) (fun hHeld => ?_)
        clear hKc Kc
        refine wpAnyH_take (i := 1) (v := (.bool true)) rfl (by kernel_rfl) (by kernel_rfl) (by kernel_rfl) (fun _ _ _ h => h) (Or.inl ⟨by rfl, ?_⟩) (by assumption) ?_
        · intro w' hSw
          go_simp
        simp only [List.getElem_toArray, List.getElem_cons_succ, List.getElem_cons_zero, Act.put, List.setIfInBounds_toArray, List.set_cons_zero, List.set_cons_succ]
        refine wpAnyH_take (i := 2) (v := .nilIface) rfl (by kernel_rfl) (by kernel_rfl) (by kernel_rfl) (fun _ _ _ h => h) (Or.inl ⟨by rfl, ?_⟩) (by assumption) ?_
        · intro w' hSw
          go_simp
        simp only [List.getElem_toArray, List.getElem_cons_succ, List.getElem_cons_zero, Act.put, List.setIfInBounds_toArray, List.set_cons_zero, List.set_cons_succ]
        refine wpAnyH_take (i := 3) (v := (.bool true)) rfl (by kernel_rfl) (by kernel_rfl) (by kernel_rfl) (fun _ _ _ h => h) (Or.inl ⟨by rfl, ?_⟩) (by assumption) ?_
        · intro w' hSw
          go_simp
        simp only [List.getElem_toArray, List.getElem_cons_succ, List.getElem_cons_zero, Act.put, List.setIfInBounds_toArray, List.set_cons_zero, List.set_cons_succ]
        refine wpAnyH_take (i := 4) (v := (.bool true)) rfl (by kernel_rfl) (by kernel_rfl) (by kernel_rfl) (fun _ _ _ h => h) (Or.inl ⟨by rfl, ?_⟩) (by assumption) ?_
        · intro w' hSw
          go_simp
        simp only [List.getElem_toArray, List.getElem_cons_succ, List.getElem_cons_zero, Act.put, List.setIfInBounds_toArray, List.set_cons_zero, List.set_cons_succ]
        refine wpAnyH_take (i := 5) (v := (.bool true)) rfl (by kernel_rfl) (by kernel_rfl) (by kernel_rfl) (fun _ _ _ h => h) (Or.inl ⟨by rfl, ?_⟩) (by assumption) ?_
        · intro w' hSw
          go_simp
        simp only [List.getElem_toArray, List.getElem_cons_succ, List.getElem_cons_zero, Act.put, List.setIfInBounds_toArray, List.set_cons_zero, List.set_cons_succ]
        refine wpAnyH_take (i := 6) (v := .nilIface) rfl (by kernel_rfl) (by kernel_rfl) (by kernel_rfl) (fun _ _ _ h => h) (Or.inl ⟨by rfl, ?_⟩) (by assumption) ?_
        · intro w' hSw
          go_simp
        simp only [List.getElem_toArray, List.getElem_cons_succ, List.getElem_cons_zero, Act.put, List.setIfInBounds_toArray, List.set_cons_zero, List.set_cons_succ]
        refine wpAnyH_take (i := 7) (v := (.bool true)) rfl (by kernel_rfl) (by kernel_rfl) (by kernel_rfl) (fun _ _ _ h => h) (Or.inl ⟨by rfl, ?_⟩) (by assumption) ?_
        · intro w' hSw
          go_simp
        simp only [List.getElem_toArray, List.getElem_cons_succ, List.getElem_cons_zero, Act.put, List.setIfInBounds_toArray, List.set_cons_zero, List.set_cons_succ]
        refine wpAnyH_take (i := 8) (v := (.bool true)) rfl (by kernel_rfl) (by kernel_rfl) (by kernel_rfl) (fun _ _ _ h => h) (Or.inl ⟨by rfl, ?_⟩) (by assumption) ?_
        · intro w' hSw
          go_simp
        simp only [List.getElem_toArray, List.getElem_cons_succ, List.getElem_cons_zero, Act.put, List.setIfInBounds_toArray, List.set_cons_zero, List.set_cons_succ]
        refine wpAnyH_take (i := 9) (v := (.bool true)) rfl (by kernel_rfl) (by kernel_rfl) (by kernel_rfl) (fun _ _ _ h => h) (Or.inl ⟨by rfl, ?_⟩) (by assumption) ?_
        · intro w' hSw
          go_simp
        simp only [List.getElem_toArray, List.getElem_cons_succ, List.getElem_cons_zero, Act.put, List.setIfInBounds_toArray, List.set_cons_zero, List.set_cons_succ]
        refine wpAnyH_take (i := 10) (v := .agg (msgC g (.slice a9 0 c9) ⟨#[]⟩)) rfl (by kernel_rfl) (by kernel_rfl) (by kernel_rfl) (fun _ _ _ h => h) (yields_row (by rfl) 24 _ rfl w4.heap.size rfl 24 (msgC g (.slice a9 0 c9) ⟨#[]⟩) _ (fun w' hS => hS.2) Tryd.underlying24 rfl Tryd.infoMsg) (by assumption) ?_
        simp only [List.getElem_toArray, List.getElem_cons_succ, List.getElem_cons_zero, Act.put, List.setIfInBounds_toArray, List.set_cons_zero, List.set_cons_succ]
        refine wpAnyH_take (i := 12) (v := .agg (msgC g (.slice none 0 0) ⟨#[]⟩)) rfl (by kernel_rfl) (by kernel_rfl) (by kernel_rfl) (fun _ _ _ h => h) (yields_row (by rfl) 24 _ rfl w.heap.size rfl 24 (msgC g (.slice none 0 0) ⟨#[]⟩) _ (fun w' hS => hS.1) Tryd.underlying24 rfl Tryd.infoMsg) (by assumption) ?_
        simp only [List.getElem_toArray, List.getElem_cons_succ, List.getElem_cons_zero, Act.put, List.setIfInBounds_toArray, List.set_cons_zero, List.set_cons_succ]
        refine wpAnyH_ready (rs := [11]) (by kernel_rfl) (by simp) ?_
        refine AllReadyH.cons rfl (fun Kc hKc => ?_) AllReadyH.nil
        simp only [List.getElem_toArray, List.getElem_cons_succ, List.getElem_cons_zero]
        rw [if_pos (by rfl)]
        go_wp2_with fail
        refine (TB _ a9 c9 Q6).mono ?_
        rintro e wl ⟨b5, c5, rfl, Q5, nb5, Bl⟩
        replace Xh := Xh.next Bl
        replace Yh := Yh.next Bl
        replace Dh := below_then Dh Bl
        go_wp2_with fail
        refine hKc.out _ _ (⟨Xh, Yh⟩) (fun hHeld => ?_)
        clear hKc Kc
        refine wpAnyH_ready (rs := [13]) (by kernel_rfl) (by simp) ?_
        refine AllReadyH.cons rfl (fun Kc hKc => ?_) AllReadyH.nil
        simp only [List.getElem_toArray, List.getElem_cons_succ, List.getElem_cons_zero]
        rw [if_pos (by rfl)]
        go_wp2_with fail
        refine (TA _).mono ?_
        rintro e wm ⟨b7, c7, rfl, Q7, nb7, Bm⟩
        replace Xh := Xh.next Bm
        replace Yh := Yh.next Bm
        replace Dh := below_then Dh Bm
        replace Q5 := Q5.below Bm
        go_wp2_with fail
        refine hKc.out _ _ (⟨Xh, Yh⟩) (fun hHeld => ?_)
        clear hKc Kc
        refine wpAnyH_ready (rs := [14]) (by kernel_rfl) (by simp) ?_
        refine AllReadyH.cons rfl (fun Kc hKc => ?_) AllReadyH.nil
        simp only [List.getElem_toArray, List.getElem_cons_succ, List.getElem_cons_zero]
        rw [if_pos (by rfl)]
        go_wp2_with fail
        refine (SM _ b5 c5 b7 c7 Q5 Q7).mono ?_
        rintro e wn ⟨rfl, Bn⟩
        replace Xh := Xh.next Bn
        replace Yh := Yh.next Bn
        replace Dh := below_then Dh Bn
        go_wp2_with fail
        refine hKc.out _ _ (⟨Xh, Yh⟩) (fun hHeld => ?_)
        clear hKc Kc
        refine wpAnyH_take (i := 15) (v := (.bool true)) rfl (by kernel_rfl) (by kernel_rfl) (by kernel_rfl) (fun _ _ _ h => h) (Or.inl ⟨by rfl, ?_⟩) (by assumption) ?_
        · intro w' hSw
          go_simp
        simp only [List.getElem_toArray, List.getElem_cons_succ, List.getElem_cons_zero, Act.put, List.setIfInBounds_toArray, List.set_cons_zero, List.set_cons_succ]
        refine wpAnyH_take (i := 16) (v := (.bool true)) rfl (by kernel_rfl) (by kernel_rfl) (by kernel_rfl) (fun _ _ _ h => h) (Or.inl ⟨by rfl, ?_⟩) (by assumption) ?_
        · intro w' hSw
          go_simp
        simp only [List.getElem_toArray, List.getElem_cons_succ, List.getElem_cons_zero, Act.put, List.setIfInBounds_toArray, List.set_cons_zero, List.set_cons_succ]
        refine wpAnyH_done (by kernel_rfl) ?_ _
        clear hHeld
        go_wp2
        go_ret
        exact ⟨rfl, Dh⟩
end Go.Proofs.YtmcjcmddijikbaaDoor
