/- Package heads: what one head makes, the errors of Attend, and Attend. -/
import Derived.Test.YtjcacejkiaepnaaDoorHeads
namespace Go.Proofs.YtjcacejkiaepnaaDoor
open Go.ChangeShapes Go.WideShapes Go.ChangeAt Go.RowKit
/-- The scores of a row and m keys. -/
def scrs (Q : List Int) (K : List (List Int)) (m n : Nat) : List Int := tab m fun i => scoreN Q (rowOf K i) n
/-- What a head makes at a place of the values' rows. -/
def headEl (Q : List Int) (K V : List (List Int)) (m n j : Nat) : Int := dotN (tab m (wgt (scrs Q K m n) m)) (colOf V m j) m
theorem headEl_bd (Q : List Int) (K V : List (List Int)) (m n j : Nat) : -2147483647 ≤ headEl Q K V m n j ∧ headEl Q K V m n j ≤ 2147483647 := dotN_bd _ _ _
theorem mixedN_of {m n : Nat} {V : List (List Int)} (h1 : 1 ≤ m) (h4 : m ≤ 4096) (hl : V.length = m) (ha : ∀ t, t < m → (rowOf V t).length = n) : mixedN m V = 0 := by
  unfold mixedN
  rw [if_neg (by omega), if_neg (by omega), if_neg (by omega)]
  have e : alike V m = true := by
    have : ∀ k, k ≤ m → alike V k = true := by
      intro k
      induction k with
      | zero => intro _; rfl
      | succ k ih => intro hk; unfold alike; rw [ih (by omega), ha k (by omega), ha 0 (by omega)]; simp
    exact this m (Nat.le_refl _)
  rw [if_pos e]
set_option maxHeartbeats 1600000 in
theorem attendOne_any (qo ko vo : Option Addr) (n m cq ck cv : Nat) (Q : List Int) (K V : List (List Int)) (w : World) (hT : Tab w) (hQ : RowAt w qo n Q) (hK : GridAt w ko m K) (hV : GridAt w vo m V) (hn : n ≤ 4096) (h1 : 1 ≤ m) (hm : m ≤ 4096) (hlk : ∀ t, t < m → (rowOf K t).length = n) (hlv : ∀ t, t < m → (rowOf V t).length = n) :
   Calls Tryd.prog 19 #[.slice qo n cq, .slice ko m ck, .slice vo m cv] w fun e w' => ∃ g, e = .returned (.tuple #[.slice (some ⟨g, 0, none⟩) n n, .int .i64 0]) ∧ Fresh w' w.heap.size g n n (tab n fun j => headEl Q K V m n j) ∧ Below w.heap.size w w' := by
  have hs : sizeN m = 0 := by unfold sizeN; rw [if_neg (by omega), if_neg (by omega)]
  have hx : mixedN m V = 0 := mixedN_of h1 hm hV.len hlv
  have hv0 := hlv 0 (by omega)
  go_enter Tryd.func19, Tryd.ntmps19
  go_wp2_with fail
  refine (scores_any _ _ _ _ _ _ _ _ _ hQ hK hn hm hlk).mono ?_
  rintro e w1 ⟨g1, rfl, F1, B1⟩
  replace hT := hT.next B1
  replace hV := hV.below B1
  clear hQ hK
  go_wp2_with fail
  refine (weights_any _ _ _ _ _ hT F1.rowAt hs).mono ?_
  rintro e w2 ⟨g2, rfl, F2, B2⟩
  replace hV := hV.below B2
  replace B2 := below_then B1 B2
  clear hT F1 B1
  go_wp2_with fail
  refine (mix_any _ _ _ _ _ _ _ _ _ F2.rowAt hV hx (by omega)).mono ?_
  rw [hv0]
  rintro e w3 ⟨g3, rfl, F3, B3⟩
  have s2 := B2.size
  replace B3 := below_then B2 B3
  go_wp2
  go_ret2
  exact ⟨_, rfl, F3.mono s2, B3⟩
/-- The error's number of what Attend is handed. -/
def chkN (n m mv : Nat) (K V : List (List Int)) (h : Int) : Int :=
  if h < 1 ∨ 4 < h then 1 else if n = 0 ∨ m = 0 then 8 else if 32 < n ∨ 128 < m then 2 else if n % h.toNat ≠ 0 ∨ mv ≠ m ∨ longs K n m = false ∨ longs V n mv = false then 6 else 0
theorem chkN_ok {n m mv : Nat} {K V : List (List Int)} {h : Int} (e : chkN n m mv K V h = 0) : (1 ≤ h ∧ h ≤ 4) ∧ (1 ≤ n ∧ n ≤ 32) ∧ (1 ≤ m ∧ m ≤ 128) ∧ n % h.toNat = 0 ∧ mv = m ∧ (∀ t, t < m → (rowOf K t).length = n) ∧ ∀ t, t < m → (rowOf V t).length = n := by
  unfold chkN at e
  split at e
  · omega
  · split at e
    · omega
    · split at e
      · omega
      · split at e
        · omega
        · rename_i a b c d
          have d1 : n % h.toNat = 0 := Decidable.byContradiction fun x => d (Or.inl x)
          have d2 : mv = m := Decidable.byContradiction fun x => d (Or.inr (Or.inl x))
          have d3 : longs K n m = true := by cases q : longs K n m with | true => rfl | false => exact absurd (Or.inr (Or.inr (Or.inl q))) d
          have d4 : longs V n mv = true := by cases q : longs V n mv with | true => rfl | false => exact absurd (Or.inr (Or.inr (Or.inr q))) d
          subst d2
          exact ⟨by omega, by omega, by omega, d1, rfl, fun t ht => longs_len d3 ht, fun t ht => longs_len d4 ht⟩
set_option maxHeartbeats 1600000 in
theorem hcheck_any (qo ko vo : Option Addr) (n m mv cq ck cv : Nat) (K V : List (List Int)) (h : Int) (w : World) (hn : n ≤ 9223372036854775807) (hK : GridAt w ko m K) (hV : GridAt w vo mv V) (b1 : -9223372036854775808 ≤ h) (b2 : h ≤ 9223372036854775807) :
   Calls Tryd.prog 18 #[.slice qo n cq, .slice ko m ck, .slice vo mv cv, .int .i64 h] w fun e w' => e = .returned (.int .i64 (chkN n m mv K V h)) ∧ w' = w := by
  have hm := hK.max
  have hmv := hV.max
  by_cases c1 : h < 1
  · have HF : Hid (chkN n m mv K V h = 1) := by show _ = _; unfold chkN; rw [if_pos (Or.inl c1)]
    go_enter Tryd.func18, Tryd.ntmps18
    go_wp2
    go_ret
    exact ⟨ret_int HF.out.symm, rfl⟩
  by_cases c2 : 4 < h
  · have HF : Hid (chkN n m mv K V h = 1) := by show _ = _; unfold chkN; rw [if_pos (Or.inr c2)]
    go_enter Tryd.func18, Tryd.ntmps18
    go_wp2
    go_ret
    exact ⟨ret_int HF.out.symm, rfl⟩
  by_cases c3 : n = 0
  · subst c3
    have HF : Hid (chkN 0 m mv K V h = 8) := by show _ = _; unfold chkN; rw [if_neg (by omega), if_pos (Or.inl rfl)]
    go_enter Tryd.func18, Tryd.ntmps18
    go_wp2
    go_ret
    exact ⟨ret_int HF.out.symm, rfl⟩
  have z1 : ((n : Int) == 0) = false := by simp; omega
  by_cases c4 : m = 0
  · subst c4
    have HF : Hid (chkN n 0 mv K V h = 8) := by show _ = _; unfold chkN; rw [if_neg (by omega), if_pos (Or.inr rfl)]
    go_enter Tryd.func18, Tryd.ntmps18
    go_wp2
    go_ret
    exact ⟨ret_int HF.out.symm, rfl⟩
  have z2 : ((m : Int) == 0) = false := by simp; omega
  by_cases c5 : 32 < n
  · have HF : Hid (chkN n m mv K V h = 2) := by show _ = _; unfold chkN; rw [if_neg (by omega), if_neg (by omega), if_pos (Or.inl c5)]
    go_enter Tryd.func18, Tryd.ntmps18
    go_wp2
    go_ret
    exact ⟨ret_int HF.out.symm, rfl⟩
  by_cases c6 : 128 < m
  · have HF : Hid (chkN n m mv K V h = 2) := by show _ = _; unfold chkN; rw [if_neg (by omega), if_neg (by omega), if_pos (Or.inr c6)]
    go_enter Tryd.func18, Tryd.ntmps18
    go_wp2
    go_ret
    exact ⟨ret_int HF.out.symm, rfl⟩
  obtain ⟨H, rfl⟩ : ∃ H : Nat, h = H := ⟨h.toNat, by omega⟩
  have hz : (H : Int) ≠ 0 := by omega
  have HC : Hid (chkN n m mv K V H = if n % H ≠ 0 ∨ mv ≠ m ∨ longs K n m = false ∨ longs V n mv = false then 6 else 0) := by show _ = _; unfold chkN; rw [if_neg (by omega), if_neg (by omega), if_neg (by omega), Int.toNat_natCast]
  by_cases c7 : n % H = 0
  · have z3 : (n : Int) % (H : Int) = 0 := by omega
    rcases Decidable.em (mv = m) with rfl | c8
    · cases c9 : longs K n mv with
      | false =>
        have HF : Hid (chkN n mv mv K V H = 6) := by show _ = _; rw [HC.out, if_pos (Or.inr (Or.inr (Or.inl c9)))]
        clear HC
        go_enter Tryd.func18, Tryd.ntmps18
        go_wp2_with (go_at_call 30; refine (allLong_any _ _ _ _ _ _ hK hn).mono ?_; rintro e w ⟨rfl, rfl⟩; rw [c9])
        go_ret
        exact ⟨ret_int HF.out.symm, rfl⟩
      | true =>
        cases c10 : longs V n mv with
        | false =>
          have HF : Hid (chkN n mv mv K V H = 6) := by show _ = _; rw [HC.out, if_pos (Or.inr (Or.inr (Or.inr c10)))]
          clear HC
          go_enter Tryd.func18, Tryd.ntmps18
          go_wp2_with fail
          refine (allLong_any _ _ _ _ _ _ hK hn).mono ?_
          rintro e w ⟨rfl, rfl⟩
          rw [c9]
          go_wp2_with fail
          refine (allLong_any _ _ _ _ _ _ hV hn).mono ?_
          rintro e w ⟨rfl, rfl⟩
          rw [c10]
          go_wp2
          go_ret
          exact ⟨ret_int HF.out.symm, rfl⟩
        | true =>
          have HF : Hid (chkN n mv mv K V H = 0) := by show _ = _; rw [HC.out, if_neg (by simp [c7, c9, c10])]
          clear HC
          go_enter Tryd.func18, Tryd.ntmps18
          go_wp2_with fail
          refine (allLong_any _ _ _ _ _ _ hK hn).mono ?_
          rintro e w ⟨rfl, rfl⟩
          rw [c9]
          go_wp2_with fail
          refine (allLong_any _ _ _ _ _ _ hV hn).mono ?_
          rintro e w ⟨rfl, rfl⟩
          rw [c10]
          go_wp2
          go_ret
          exact ⟨ret_int HF.out.symm, rfl⟩
    · have HF : Hid (chkN n m mv K V H = 6) := by show _ = _; rw [HC.out, if_pos (Or.inr (Or.inl c8))]
      have z4 : ((mv : Int) == (m : Int)) = false := by simp; omega
      clear HC
      go_enter Tryd.func18, Tryd.ntmps18
      go_wp2
      go_ret
      exact ⟨ret_int HF.out.symm, rfl⟩
  · have HF : Hid (chkN n m mv K V H = 6) := by show _ = _; rw [HC.out, if_pos (Or.inl c7)]
    have z3 : ((n : Int) % (H : Int) == 0) = false := by simp; omega
    clear HC
    go_enter Tryd.func18, Tryd.ntmps18
    go_wp2
    go_ret
    exact ⟨ret_int HF.out.symm, rfl⟩
end Go.Proofs.YtjcacejkiaepnaaDoor
