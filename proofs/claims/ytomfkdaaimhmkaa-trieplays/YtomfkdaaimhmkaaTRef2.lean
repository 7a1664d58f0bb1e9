/- The document's Find and Longest, of any rows. -/
import Derived.Test.YtomfkdaaimhmkaaTRef1
namespace Go.Proofs.Ytomfkdaaimhmkaa
open Go.ChangeShapes Go.WideShapes Go.ChangeAt Go.RowKit Go.Maps
/-- Where a row stands. -/
def FindN (E : List RE) (A : List Int) (r : Int) : Prop := (r = -1 ∧ ∀ e ∈ E, e.2.1 ≠ A) ∨ ∃ k : Nat, r = (k : Int) ∧ ∃ hk : k < E.length, E[k].2.1 = A
theorem pre_eq {A Z : List Int} (h : A.length = Z.length) : (A <+: Z) ↔ A = Z := ⟨fun hp => hp.eq_of_length h, fun e => e ▸ List.prefix_refl _⟩
set_option maxRecDepth 100000 in
set_option maxHeartbeats 4000000 in
theorem find13_any (w : World) (B c n ca : Nat) (ao at' : Option Addr) (E : List RE) (A : List Int) (h : EO 54 w B (.slice ao E.length c) E) (hA : IArg w at' n ca A) (hl : E.length ≤ 1000) (hq : ∀ e ∈ E, e.2.1.length ≤ 1000) (_hn : n ≤ 1000) :
   Calls Try.prog 12 #[.slice ao E.length c, .slice at' n ca] w fun e w' => ∃ r : Int, e = .returned (.int .i64 r) ∧ FindN E A r ∧ Below w.heap.size w w' := by
  have HH : Hid (EO 54 w B (.slice ao E.length c) E) := h
  have HA : Hid (IArg w at' n ca A) := hA
  have HL : Hid (A.length = n) := hA.row.len
  clear h hA
  go_enter Try.func12, Try.ntmps12
  go_wp2_with fail
  go_loopg [9] E.length (fun r s9 wr => ∃ (i : Nat), i ≤ E.length ∧ r = E.length - i ∧ s9 = .int .i64 (i : Int) ∧ Hid (∀ e ∈ E.take i, e.2.1 ≠ A) ∧ Below w.heap.size w wr)
  case atStart => exact ⟨0, by omega, by omega, rfl, (fun e he => (by rw [List.take_zero] at he; cases he)), Below.refl _ _⟩
  case round =>
    obtain ⟨i, hi, rfl, rfl, hno, BB⟩ := hrel
    by_cases hlt : i < E.length
    case neg =>
      obtain rfl : i = E.length := by omega
      have hf : Hid (FindN E A (-1)) := Or.inl ⟨rfl, fun e he => hno.out e (by rw [List.take_length]; exact he)⟩
      go_wp2_with fail
      go_ret
      exact ⟨-1, rfl, hf.out, BB⟩
    case pos =>
      obtain ⟨g1, rfl, hg1, hc⟩ := HH.out.cells (by omega)
      obtain ⟨k0, k1⟩ := hc i hlt
      obtain ⟨sa, sc, es, hR⟩ := HH.out.slice hlt
      have hqi := hq _ (List.getElem_mem hlt)
      rw [es] at k0
      have kk0 : wr.cell? ⟨g1, i * 2, none⟩ = some (.slice sa E[i].2.1.length sc) := by rw [BB.cell (by exact hg1)]; exact k0
      have kk1 : wr.cell? ⟨g1, i * 2 + 1, none⟩ = some (.int .i64 E[i].2.2) := by rw [BB.cell (by exact hg1)]; exact k1
      have BV : Below wr.heap.size wr (wr.alloc (.cells #[.slice sa E[i].2.1.length sc, .int .i64 E[i].2.2] 54)) := below_alloc _ _
      have BW := below_then BB BV
      have hstep : Hid (E[i].2.1 ≠ A → ∀ e ∈ E.take (i + 1), e.2.1 ≠ A) := fun hne e he => by
        rw [List.take_succ_eq_append_getElem hlt, List.mem_append, List.mem_singleton] at he
        rcases he with a | a
        · exact hno.out e a
        · rw [a]; exact hne
      clear hc k0 k1
      by_cases hlen : E[i].2.1.length = n
      · have CB := begins_any _ sa at' E[i].2.1.length n sc ca E[i].2.1 A (hR.below BW).row (HA.out.below BW).row (by omega) (by omega)
        have hle : E[i].2.1.length = A.length := by rw [hlen, HL.out]
        rw [hlen] at CB kk0 BW
        clear BV
        by_cases he : E[i].2.1 = A
        · have hf : Hid (FindN E A (i : Int)) := Or.inr ⟨i, rfl, hlt, he⟩
          rw [decide_eq_true ((pre_eq hle).2 he)] at CB
          clear he hR es hno hstep hlen hle hqi
          generalize E[i].2.1 = q at *
          generalize E[i].2.2 = v at *
          go_wp2_with (go_at_call 26; refine CB.mono ?_; clear CB; rintro e w3 ⟨rfl, m3, h3⟩; have B3 : Below w.heap.size w w3 := (by rw [h3]; exact below_drewN BW m3); clear h3)
          go_ret
          exact ⟨(i : Int), rfl, hf.out, B3⟩
        · have hne := hstep.out he
          have HNE : Hid (∀ e ∈ E.take (i + 1), e.2.1 ≠ A) := hne
          rw [decide_eq_false (fun hp => he ((pre_eq hle).1 hp))] at CB
          clear he hR es hno hstep hne hlen hle hqi
          generalize E[i].2.1 = q at *
          generalize E[i].2.2 = v at *
          go_wp2_with (go_at_call 26; refine CB.mono ?_; clear CB; rintro e w3 ⟨rfl, m3, h3⟩; have B3 : Below w.heap.size w w3 := (by rw [h3]; exact below_drewN BW m3); clear h3)
          go_roundg (E.length - (i + 1))
          case measure => omega
          case rel => exact ⟨i + 1, by omega, rfl, by go_num, HNE, B3⟩
      · have HNE : Hid (∀ e ∈ E.take (i + 1), e.2.1 ≠ A) := hstep.out (fun e => hlen (by rw [e]; exact HL.out))
        clear hR es hno hstep BV
        generalize E[i].2.1 = q at *
        generalize E[i].2.2 = v at *
        go_wp2_with fail
        go_roundg (E.length - (i + 1))
        case measure => omega
        case rel => exact ⟨i + 1, by omega, rfl, by go_num, HNE, BW⟩
end Go.Proofs.Ytomfkdaaimhmkaa
