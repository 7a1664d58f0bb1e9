/- Package trie's Longest: the longest row that a row begins with. -/
import Derived.Test.YtomfkdaaimhmkaaTPut
namespace Go.Proofs.Ytomfkdaaimhmkaa
open Go.ChangeShapes Go.WideShapes Go.ChangeAt Go.RowKit Go.Maps
/-- How long the longest row is that the first i numbers begin with, and its value. -/
def lgN (vl : List Int → Option Int) (A : List Int) : Nat → Nat × Int
  | 0 => (0, 0)
  | i + 1 => match vl (A.take (i + 1)) with
    | some v => (i + 1, v)
    | none => lgN vl A i
theorem lgN_on {vl : List Int → Option Int} {A : List Int} {i : Nat} {v : Int} (h : vl (A.take (i + 1)) = some v) : lgN vl A (i + 1) = (i + 1, v) := by
  show (match vl (A.take (i + 1)) with | some v => (i + 1, v) | none => lgN vl A i) = _
  rw [h]
theorem lgN_off {vl : List Int → Option Int} {A : List Int} {i : Nat} (h : vl (A.take (i + 1)) = none) : lgN vl A (i + 1) = lgN vl A i := by
  show (match vl (A.take (i + 1)) with | some v => (i + 1, v) | none => lgN vl A i) = _
  rw [h]
theorem lgN_rest {vl : List Int → Option Int} {A : List Int} {i : Nat} (h : ∀ d, i + d + 1 ≤ A.length → vl (A.take (i + d + 1)) = none) : ∀ d, i + d ≤ A.length → lgN vl A (i + d) = lgN vl A i
  | 0, _ => rfl
  | d + 1, hd => by
    rw [← Nat.add_assoc, lgN_off (h d (by omega))]
    exact lgN_rest h d (by omega)
theorem lgN_bd (vl : List Int → Option Int) (A : List Int) : ∀ i, (lgN vl A i).1 ≤ i
  | 0 => Nat.le_refl _
  | i + 1 => by
    rcases h : vl (A.take (i + 1)) with _ | v
    · rw [lgN_off h]; have := lgN_bd vl A i; omega
    · rw [lgN_on h]; exact Nat.le_refl _
set_option maxHeartbeats 1000000 in
theorem longest_any (ao : Option Addr) (n ca : Nat) (A : List Int) (w : World) (B tb NB cnt : Nat) (S : TS) (vl : List Int → Option Int) (h : TA w B tb S vl NB cnt) (hA : Tk w ao n A) :
   Calls Try.prog 16 #[.pointer (some ⟨tb, 0, none⟩), .slice ao n ca] w fun e w' => e = .returned (.tuple #[.int .i64 ((lgN vl A n).1 : Int), .int .i64 (lgN vl A n).2]) ∧ ∃ m, w' = w.drewN m := by
  obtain ⟨hT, rfl, hD, _, _⟩ := h
  have hl := hA.len
  have hmx := hA.max
  go_enter Try.func16, Try.ntmps16
  go_wp2_with fail
  go_loopg [6, 7, 8, 16] n (fun r s6 s7 s8 s16 wr => ∃ (i g : Nat), i ≤ n ∧ r = n - i ∧ s16 = .int .i64 (i : Int) ∧ s8 = .pointer (some ⟨g, 0, none⟩) ∧ S.nd (A.take i) = some g ∧ s6 = .int .i64 ((lgN S.vl A i).1 : Int) ∧ s7 = .int .i64 (lgN S.vl A i).2 ∧ ∃ m, wr = w.drewN m)
  case atStart => exact ⟨0, tb, by omega, by omega, rfl, rfl, by rw [List.take_zero]; exact hT.root, rfl, rfl, 0, rfl⟩
  case round =>
    obtain ⟨i, g, hi, rfl, rfl, rfl, hg, rfl, rfl, m0, hw0⟩ := hrel
    have hT' : TI wr B tb S NB cnt := hw0 ▸ hT.drewN m0
    have hA' : Tk wr ao n A := hw0 ▸ hA.below (below_drewN (Below.refl _ _) m0)
    have HW : Hid (wr = w.drewN m0) := hw0
    clear hw0
    by_cases hlt : i < n
    · obtain ⟨b, o, hao, hc⟩ := hA'.cells (by omega)
      subst hao
      have c1 := hc i hlt
      have sm := hA'.small i
      have hw := wfI _ sm.1 sm.2
      have c0 := hT'.c0 _ _ hg
      have tk : Hid (A.take (i + 1) = A.take i ++ [A.getD i 0]) := take_snoc A i (by omega)
      have lk : (Instr.lookup 24 (.map (S.mp (A.take i))) (.int .i64 (A.getD i 0)) false).run Try.prog wr = .ok (ptr (S.nd (A.take i ++ [A.getD i 0]))) wr := by
        rcases hm : S.mp (A.take i) with _ | mb
        · rw [hT'.m0 _ hm]
          exact look_none wr _ hw
        · obtain ⟨n1, _, hm1⟩ := hT'.m1 _ _ hm
          exact hm1.look _ hw
      clear hc hw
      generalize S.mp (A.take i) = mm at *
      generalize A.getD i 0 = k at *
      rcases hq : S.nd (A.take i ++ [k]) with _ | g2
      · rw [hq] at lk
        have hz : Hid (lgN S.vl A n = lgN S.vl A i) := by
          show _ = _
          have h1 : S.nd (A.take (i + 1)) = none := by rw [tk.out]; exact hq
          have := lgN_rest (vl := S.vl) (A := A) (i := i) (fun d hd => by
            have h2 := hT.none_take A (i + 1) h1 d (by omega)
            rw [show i + 1 + d = i + d + 1 by omega] at h2
            rcases hv : S.vl (A.take (i + d + 1)) with _ | v
            · rfl
            · exact absurd h2 (hT.vnd _ (by rw [hv]; simp))) (n - i) (by omega)
          rwa [show i + (n - i) = n by omega] at this
        unfold ptr at lk
        clear hq hA hT hT' hA'
        generalize lgN S.vl A i = lg at *
        go_wp2_with fail
        go_ret2
        exact ⟨by rw [hz.out]; rfl, _, HW.out⟩
      · rw [hq] at lk
        have hz : Hid (S.nd (A.take (i + 1)) = some g2) := by show _ = _; rw [tk.out]; exact hq
        have c3 := hT'.c1 _ _ hq
        have c4 := hT'.c2 _ _ hq
        unfold ptr at lk
        rcases hv : S.vl (A.take i ++ [k]) with _ | v
        · rw [hv] at c3 c4
          have hlg : Hid (lgN S.vl A (i + 1) = lgN S.vl A i) := lgN_off (by rw [tk.out]; exact hv)
          simp only [Option.isSome_none] at c3
          clear hq hv hT' hA'
          generalize lgN S.vl A i = lg at *
          go_wp2_with fail
          go_roundg (n - (i + 1))
          case measure => omega
          case rel => exact ⟨i + 1, g2, by omega, rfl, by go_num, rfl, hz.out, by rw [hlg.out], by rw [hlg.out], m0, HW.out⟩
        · rw [hv] at c3 c4
          have hlg : Hid (lgN S.vl A (i + 1) = (i + 1, v)) := lgN_on (by rw [tk.out]; exact hv)
          simp only [Option.isSome_some, Option.getD_some] at c3 c4
          clear hq hv hT' hA'
          generalize lgN S.vl A i = lg at *
          go_wp2_with fail
          go_quiet (fail)
          go_wp2_with fail
          go_roundg (n - (i + 1))
          case measure => omega
          case rel => exact ⟨i + 1, g2, by omega, rfl, by go_num, rfl, hz.out, by rw [hlg.out]; go_num, by rw [hlg.out], m0 + nq, by rw [HW.out, World.drewN_drewN]⟩
    · obtain rfl : i = n := by omega
      clear hA hT hT' hA'
      go_wp2_with fail
      go_ret2
      exact ⟨rfl, _, HW.out⟩
end Go.Proofs.Ytomfkdaaimhmkaa
