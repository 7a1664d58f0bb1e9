/- The Go text of HeadsWithin returns true at every input, where the table of steps lies as the program's text lays it. -/
import Derived.Test.YtjcacejkiaepnaaDoorHNum
import Derived.Test.YtjcacejkiaepnaaDoorHRows
import Derived.Test.YtjcacejkiaepnaaDoorHAwake
namespace Go.Proofs.YtjcacejkiaepnaaDoor
open Go.ChangeShapes Go.WideShapes Go.ChangeAt Go.RowKit
/-- The least of nought and a column's first k numbers, and the greatest. -/
def lowTo (V : List (List Int)) (j : Nat) : Nat → Int
  | 0 => 0
  | k + 1 => min (lowTo V j k) (el (rowOf V k) j)
def highTo (V : List (List Int)) (j : Nat) : Nat → Int
  | 0 => 0
  | k + 1 => max (highTo V j k) (el (rowOf V k) j)
theorem lowTo_bd {V : List (List Int)} {j m : Nat} (hs : ∀ i, i < m → Small (rowOf V i)) : ∀ k, k ≤ m → -2147483648 ≤ lowTo V j k ∧ lowTo V j k ≤ 0 := by
  intro k
  induction k with
  | zero => intro _; unfold lowTo; omega
  | succ k ih => intro hk; have := ih (by omega); have := (hs k (by omega)).el j; unfold lowTo; omega
theorem highTo_bd {V : List (List Int)} {j m : Nat} (hs : ∀ i, i < m → Small (rowOf V i)) : ∀ k, k ≤ m → 0 ≤ highTo V j k ∧ highTo V j k ≤ 2147483647 := by
  intro k
  induction k with
  | zero => intro _; unfold highTo; omega
  | succ k ih => intro hk; have := ih (by omega); have := (hs k (by omega)).el j; unfold highTo; omega
theorem lowTo_le (V : List (List Int)) (j : Nat) : ∀ k i, i < k → lowTo V j k ≤ el (rowOf V i) j ∧ el (rowOf V i) j ≤ highTo V j k := by
  intro k
  induction k with
  | zero => intro i hi; omega
  | succ k ih =>
    intro i hi
    unfold lowTo highTo
    rcases Nat.lt_or_ge i k with h | h
    · have := ih i h; omega
    · obtain rfl : i = k := by omega
      omega
set_option maxRecDepth 100000 in
set_option maxHeartbeats 3200000 in
theorem headsWithin_walk (ao : Option Addr) (n0 ca : Nat) (Z : List Int) (ko : Option Addr) (nk ck : Nat) (Y : List (List Int)) (vo : Option Addr) (nv cv : Nat) (X : List (List Int)) (h : Int) (w : World) (hA : Arg w ao n0 ca Z) (hK : GridAt w ko nk Y) (hV : GridAt w vo nv X) (bh : -9223372036854775808 ≤ h ∧ h ≤ 9223372036854775807) (hT : Tab w) :
    Calls Tryd.prog 8 #[.slice ao n0 ca, .slice ko nk ck, .slice vo nv cv, .int .i64 h] w fun e w' => e = .returned (.bool true) ∧ Below w.heap.size w w' := by
  go_enter Tryd.func8, Tryd.ntmps8
  go_wp2_with fail
  refine (few_any _ _ _ _ 32 _ _ rfl hA (by omega)).mono ?_
  rintro e w1 ⟨g, n, cap, rfl, hn, F1, B1⟩
  replace hT := hT.next B1
  replace hK := hK.below B1
  replace hV := hV.below B1
  clear hA
  go_wp2_with fail
  refine (hrows_any _ _ _ _ 60 _ _ rfl hK (by omega)).mono ?_
  rintro e w2 ⟨gk, m, kk, rfl, hm, O2, B2⟩
  replace hT := hT.next B2
  replace F1 := F1.below B2
  replace hV := hV.below B2
  replace B2 := below_then B1 B2
  clear hK B1
  go_wp2_with fail
  refine (hrows_any _ _ _ _ 60 _ _ rfl hV (by omega)).mono ?_
  rintro e w3 ⟨gv, mv, kv, rfl, hmv, O3, B3⟩
  replace hT := hT.next B3
  replace F1 := F1.below B3
  replace O2 := O2.below B3
  replace B3 := below_then B2 B3
  clear hV B2
  have GK := O2.grid (by omega)
  have GV := O3.grid (by omega)
  clear O2 O3
  generalize Z.take 32 = Q at *
  generalize rowsN Y 60 = K at *
  generalize rowsN X 60 = V at *
  by_cases hf : chkN n m mv K V h = 0
  · obtain ⟨-, hn2, hm2, -, rfl, -, hlv⟩ := chkN_ok hf
    go_wp2_with fail
    refine (attend_any _ _ _ _ _ _ _ _ _ _ _ _ _ _ hT F1.arg GK GV hf).mono ?_
    rintro e w4 ⟨g4, c4, rfl, F4, B4⟩
    replace hT := hT.next B4
    replace GV := GV.below B4
    replace B4 := below_then B3 B4
    generalize n / h.toNat = s at *
    clear F1 GK hf B3
    have sm : ∀ i, i < mv → Small (rowOf V i) := fun i hi => by
      obtain ⟨b, o, e, hc⟩ := GV.cells (by omega)
      obtain ⟨ro, m1, c1, q1, A1⟩ := hc i hi
      exact A1.row.small
    have HX : Hid (∀ j, j < n → lowTo V j mv ≤ attEl Q K V mv s j ∧ attEl Q K V mv s j ≤ highTo V j mv) := fun j hj => by
      unfold attEl
      exact head_between _ _ _ _ _ _ _ _ hm2.1 (fun i hi => lowTo_le V j mv i hi) (lowTo_bd sm mv (Nat.le_refl _)) (highTo_bd sm mv (Nat.le_refl _))
    go_wp2_with fail
    go_loopg [40] n (fun r i wr => ∃ k : Nat, k ≤ n ∧ r = n - k ∧ i = .int .i64 k ∧ ∃ d, wr = w4.drewN d)
    case atStart => exact ⟨0, by omega, by omega, rfl, 0, rfl⟩
    case round =>
      obtain ⟨j, hj, rfl, rfl, d, rfl⟩ := hrel
      by_cases hlt : j < n
      · go_wp2_with fail
        go_loopg [12, 13, 45] mv (fun r lo hi i wr => ∃ k : Nat, k ≤ mv ∧ r = mv - k ∧ i = .int .i64 k ∧ lo = .int .i32 (lowTo V j k) ∧ hi = .int .i32 (highTo V j k) ∧ wr = w4.drewN d)
        case atStart => exact ⟨0, by omega, by omega, rfl, rfl, rfl, rfl⟩
        case round =>
          obtain ⟨k, hk, rfl, rfl, rfl, rfl, rfl⟩ := hrel
          by_cases hlk : k < mv
          · obtain ⟨b, o, e, hc⟩ := (GV.drewN d).cells (by omega)
            simp only [Option.some.injEq, Addr.mk.injEq, and_true] at e
            obtain ⟨rfl, rfl⟩ := e
            obtain ⟨ro, m1, c1, q1, A1⟩ := hc k hlk
            have l1 := A1.row.len
            rw [hlv k hlk] at l1
            subst l1
            obtain ⟨b2, o2, rfl, hc2⟩ := A1.row.cells (by omega)
            have q2 := hc2 j hlt
            rw [Nat.zero_add] at q1
            have b1 := (sm k hlk).el j
            have b3 := lowTo_bd (j := j) sm k hk
            have b4 := highTo_bd (j := j) sm k hk
            have HL : Hid (lowTo V j (k + 1) = min (lowTo V j k) (el (rowOf V k) j)) := rfl
            have HH : Hid (highTo V j (k + 1) = max (highTo V j k) (el (rowOf V k) j)) := rfl
            clear hc hc2 A1 F4 hT GV B4 sm HX
            generalize lowTo V j k = lo at *
            generalize highTo V j k = hi at *
            generalize el (rowOf V k) j = x at *
            go_wp2
            all_goals
              go_roundg (mv - (k + 1))
              case measure => omega
              case rel => exact ⟨k + 1, by omega, rfl, by go_num, by rw [HL.out]; congr 1; omega, by rw [HH.out]; congr 1; omega, rfl⟩
          · obtain rfl : k = mv := by omega
            have c1 := (F4.drewN d).cell hlt
            rw [el_tab hlt] at c1
            have b1 := HX.out j hlt
            have b2 := lowTo_bd (j := j) sm k (Nat.le_refl _)
            have b3 := highTo_bd (j := j) sm k (Nat.le_refl _)
            clear F4 GV sm HX hT B4
            generalize lowTo V j k = lo at *
            generalize highTo V j k = hi at *
            generalize attEl Q K V k s j = x at *
            go_wp2
            go_roundg (n - (j + 1))
            case measure => omega
            case rel => exact ⟨j + 1, by omega, rfl, by go_num, d, rfl⟩
      · obtain rfl : j = n := by omega
        have T5 := hT.next (below_drewN (Below.refl _ _) d)
        go_wp2_with (go_at_call 13; refine (hawake_any _ T5).mono ?_; rintro e w5 ⟨rfl, B5⟩)
        go_ret
        exact ⟨rfl, below_then (below_drewN B4 d) B5⟩
  · have hf' : (chkN n m mv K V h == 0) = false := by simpa using hf
    go_wp2_with fail
    refine (attend_bad _ _ _ _ _ _ _ _ _ _ _ _ _ (by omega) GK GV bh.1 bh.2 hf).mono ?_
    rintro e w3 ⟨rfl, rfl⟩
    generalize chkN n m mv K V h = q at *
    go_wp2_with (go_at_call 13; refine (hawake_any _ hT).mono ?_; rintro e w5 ⟨rfl, B5⟩)
    go_ret
    exact ⟨rfl, below_then B3 B5⟩
end Go.Proofs.YtjcacejkiaepnaaDoor
