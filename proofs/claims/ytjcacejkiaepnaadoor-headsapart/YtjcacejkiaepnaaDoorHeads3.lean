/- Package heads: Attend, head by head. -/
import Derived.Test.YtjcacejkiaepnaaDoorHeads2
namespace Go.Proofs.YtjcacejkiaepnaaDoor
open Go.ChangeShapes Go.WideShapes Go.ChangeAt Go.RowKit
/-- What comes out at a place, heads of s numbers each. -/
def attEl (Q : List Int) (K V : List (List Int)) (m s j : Nat) : Int := headEl (partOf Q (j / s * s) s) (partsOf K (j / s * s) s) V m s j
theorem attEl_bd (Q : List Int) (K V : List (List Int)) (m s j : Nat) : -2147483647 ≤ attEl Q K V m s j ∧ attEl Q K V m s j ≤ 2147483647 := headEl_bd _ _ _ _ _ _
theorem tab_append (a b : Nat) (f : Nat → Int) : tab (a + b) f = tab a f ++ tab b fun j => f (a + j) := by
  unfold tab
  rw [List.range_add, List.map_append, List.map_map]
  rfl
theorem col_parts {V : List (List Int)} {m f s j : Nat} (hl : V.length = m) (hj : j < s) : colOf (partsOf V f s) m j = colOf V m (f + j) := by
  unfold colOf
  refine tab_congr fun k hk => ?_
  rw [rowOf_parts (by omega), el_part hj]
theorem head_att (Q : List Int) (K V : List (List Int)) (m s k : Nat) (hs : 1 ≤ s) (hl : V.length = m) : (tab s fun j => headEl (partOf Q (k * s) s) (partsOf K (k * s) s) (partsOf V (k * s) s) m s j) = tab s fun j => attEl Q K V m s (k * s + j) := by
  refine tab_congr fun j hj => ?_
  have e : (k * s + j) / s = k := by rw [Nat.add_comm, Nat.add_mul_div_right _ _ (by omega), Nat.div_eq_of_lt hj]; omega
  unfold attEl
  rw [e]
  unfold headEl
  rw [col_parts hl hj]
theorem attend_bad (qo ko vo : Option Addr) (n m mv cq ck cv : Nat) (K V : List (List Int)) (h : Int) (w : World) (hn : n ≤ 9223372036854775807) (hK : GridAt w ko m K) (hV : GridAt w vo mv V) (b1 : -9223372036854775808 ≤ h) (b2 : h ≤ 9223372036854775807) (hf : chkN n m mv K V h ≠ 0) :
   Calls Tryd.prog 11 #[.slice qo n cq, .slice ko m ck, .slice vo mv cv, .int .i64 h] w fun e w' => e = .returned (.tuple #[.slice none 0 0, .int .i64 (chkN n m mv K V h)]) ∧ w' = w := by
  have hf' : (chkN n m mv K V h == 0) = false := by simpa using hf
  generalize hq : chkN n m mv K V h = q at *
  go_enter Tryd.func11, Tryd.ntmps11
  go_wp2_with (go_at_call 18; refine (hcheck_any _ _ _ _ _ _ _ _ _ _ _ _ _ hn hK hV b1 b2).mono ?_; rintro e w ⟨rfl, rfl⟩; rw [hq])
  go_ret2
  exact ⟨rfl, rfl⟩
set_option maxHeartbeats 3200000 in
theorem attend_any (qo ko vo : Option Addr) (n m mv cq ck cv : Nat) (Q : List Int) (K V : List (List Int)) (h : Int) (w : World) (hT : Tab w) (hQ : Arg w qo n cq Q) (hK : GridAt w ko m K) (hV : GridAt w vo mv V) (hf : chkN n m mv K V h = 0) :
   Calls Tryd.prog 11 #[.slice qo n cq, .slice ko m ck, .slice vo mv cv, .int .i64 h] w fun e w' => ∃ g cap, e = .returned (.tuple #[.slice (some ⟨g, 0, none⟩) n cap, .int .i64 0]) ∧ Fresh w' w.heap.size g n cap (tab n (attEl Q K V m (n / h.toNat))) ∧ Below w.heap.size w w' := by
  obtain ⟨hh, hn, hm, hd, rfl, hlk, hlv⟩ := chkN_ok hf
  obtain ⟨H, rfl⟩ : ∃ H : Nat, h = H := ⟨h.toNat, by omega⟩
  rw [Int.toNat_natCast] at hd ⊢
  obtain ⟨s, hs⟩ : ∃ s, s = n / H := ⟨_, rfl⟩
  have hns : H * s = n := by rw [hs]; exact Nat.mul_div_cancel' (Nat.dvd_of_mod_eq_zero hd)
  have h1 : 1 ≤ s := by
    rcases Nat.eq_zero_or_pos s with e | e
    · rw [e] at hns; omega
    · exact e
  have hsn : s ≤ n := by rw [hs]; exact Nat.div_le_self _ _
  have hdiv : (n : Int) / (H : Int) = s := by rw [hs]; rfl
  rw [← hs]
  have hmk := run_make_room' (P := Tryd.prog) 22 35 (.int .i32 0) 4 Tryd.underlying22 Tryd.infoNum rfl .i64 .i64 n (by omega) (by omega)
  have F0 := fresh_room w n (by omega)
  have B0 : Below w.heap.size w (w.alloc (.cells (madeCells #[.int .i32 0] n) 35)) := (Below.refl _ _).alloc (Nat.le_refl _) _
  have HK : Hid (∀ wv, Below w.heap.size w wv → GridAt wv ko mv K) := fun wv hb => hK.below hb
  have HV : Hid (∀ wv, Below w.heap.size w wv → GridAt wv vo mv V) := fun wv hb => hV.below hb
  have HQ : Hid (∀ wv, Below w.heap.size w wv → Arg wv qo n cq Q) := fun wv hb => hQ.below hb
  have HT : Hid (∀ wv, Below w.heap.size w wv → Tab wv) := fun wv hb => hT.next hb
  have hz : (H : Int) ≠ 0 := by omega
  clear hs
  go_enter Tryd.func11, Tryd.ntmps11
  go_wp2_with (go_at_call 18; refine (hcheck_any _ _ _ _ _ _ _ _ _ _ _ _ _ (by omega) hK hV (by omega) (by omega)).mono ?_; rintro e w ⟨rfl, rfl⟩; rw [hf])
  clear hmk hf hK hV hQ hT
  generalize w.alloc (.cells (madeCells #[.int .i32 0] n) 35) = w0 at *
  go_loopg [11, 33] H (fun r s0 i wr => ∃ (k g cap : Nat), k ≤ H ∧ r = H - k ∧ i = .int .i64 k ∧ s0 = .slice (some ⟨g, 0, none⟩) (k * s) cap ∧ Fresh wr w.heap.size g (k * s) cap (tab (k * s) (attEl Q K V mv s)) ∧ Below w.heap.size w wr)
  case atStart => exact ⟨0, _, _, by omega, by omega, rfl, by rw [Nat.zero_mul], by rw [Nat.zero_mul]; exact F0, B0⟩
  case round =>
    obtain ⟨k, g, cap, hk, rfl, rfl, rfl, F1, B1⟩ := hrel
    clear F0 B0
    by_cases hlt : k < H
    · have hps : k * s + s ≤ n := by rw [← hns, ← Nat.succ_mul]; exact Nat.mul_le_mul_right _ hlt
      have HX : Hid (tab ((k + 1) * s) (attEl Q K V mv s) = tab (k * s) (attEl Q K V mv s) ++ tab s fun j => headEl (partOf Q (k * s) s) (partsOf K (k * s) s) (partsOf V (k * s) s) mv s j) := by
        show _ = _
        rw [head_att Q K V mv s k h1 (HV.out _ B1).len, Nat.succ_mul, tab_append]
      have HP : Hid ((k + 1) * s = k * s + s) := Nat.succ_mul k s
      have hmul : (k : Int) * (s : Int) = ((k * s : Nat) : Int) := by rw [Int.natCast_mul]
      have AQ := HQ.out _ B1
      obtain ⟨b, o, rfl, hc⟩ := AQ.row.cells (by omega)
      clear hc
      have x1 := AQ.fit
      have x2 := AQ.max
      have AP := AQ.part (k * s) s hps
      have LK : ∀ t, t < mv → (rowOf (partsOf K (k * s) s) t).length = s := fun t ht => by
        rw [rowOf_parts (by rw [(HK.out _ B1).len]; exact ht), len_part (by rw [hlk t ht]; exact hps)]
      have LV : ∀ t, t < mv → (rowOf (partsOf V (k * s) s) t).length = s := fun t ht => by
        rw [rowOf_parts (by rw [(HV.out _ B1).len]; exact ht), len_part (by rw [hlv t ht]; exact hps)]
      generalize hp : k * s = p at *
      have hp' := hp
      clear hp
      have BD : Below w.heap.size w wr.drew := B1.drew
      have s1 := B1.size
      go_wp2_with fail
      have hk4 : k < 4 := by omega
      clear hmul hdiv hd hz hns hp' hh
      have y0 : IntKind.i64.wrap ((p : Int) + (s : Int)) = (p : Int) + (s : Int) := wrap_in (by omega)
      have y1 : 0 ≤ (p : Int) + (s : Int) := by omega
      have y2 : (p : Int) + (s : Int) ≤ (cq : Int) := by omega
      have y3 : ¬ cq = p := by omega
      go_region_with (first
        | (go_at_call 20; refine (cut_any _ _ _ p s n K _ (by exact HK.out _ BD) (by omega) hlk h1 hps (by omega)).mono ?_; rintro e w1 ⟨g1, rfl, G1, C1⟩; have D1 := below_then BD C1)
        | (go_at_call 20; refine (cut_any _ _ _ p s n V _ (by exact HV.out _ D1) (by omega) hlv h1 hps (by omega)).mono ?_; rintro e w2 ⟨g2, rfl, G2, C2⟩; have D2 := below_then D1 C2; replace G1 := G1.below C2; have P2 := AP.below ((((Below.refl _ _).drew).trans (C1.mono (by exact Nat.le_refl _))).trans (C2.mono (by exact C1.size))))
        | (go_at_call 19; refine (attendOne_any _ _ _ _ _ _ _ _ _ _ _ _ (HT.out _ D2) P2.row G1 G2 (by omega) (by omega) (by omega) LK LV).mono ?_; rintro e w3 ⟨g3, rfl, F3, C3⟩; have D3 := below_then D2 C3))
      all_goals
        have E3 := F1.drew.below (((C1.mono (by exact Nat.le_refl _)).trans (C2.mono (by exact C1.size))).trans (C3.mono (by exact Nat.le_trans C1.size C2.size)))
        have s3 := D3.size
        have M3 := F3.rowAt
        go_wp2_with (at_builtin; refine wpList_append_row rfl _ _ rfl w.heap.size g p cap _ rfl (by exact E3) (some ⟨g3, 0, none⟩) s s _ rfl (by exact M3) (fun h => by cases h) (by omega) (by omega) ?_; intro g' cap' w' F4 B4)
        go_roundg (H - (k + 1))
        case measure => omega
        case rel => exact ⟨k + 1, g', cap', by omega, rfl, by go_num, by rw [HP.out], by rw [HX.out, HP.out]; exact F4, D3.trans B4⟩
    · obtain rfl : k = H := by omega
      rw [hns] at F1
      go_wp2
      go_ret2
      refine ⟨g, cap, ?_, F1, B1⟩
      rw [hns]
      rfl
end Go.Proofs.YtjcacejkiaepnaaDoor
