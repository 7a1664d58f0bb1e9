/- The document's Longest, of any rows. -/
import Derived.Test.YtomfkdaaimhmkaaTRef1
namespace Go.Proofs.Ytomfkdaaimhmkaa
open Go.ChangeShapes Go.WideShapes Go.ChangeAt Go.RowKit Go.Maps
/-- The longest row so far. -/
def LongN (E : List RE) (A : List Int) (n : Nat) (v : Int) : Prop := (n = 0 ∧ v = 0 ∨ ∃ e ∈ E, e.2.1 <+: A ∧ 0 < n ∧ e.2.1.length = n ∧ e.2.2 = v) ∧ ∀ e ∈ E, e.2.1 <+: A → e.2.1.length ≤ n
theorem LongN.step_no {E : List RE} {A : List Int} {n : Nat} {v : Int} {e : RE} (h : LongN E A n v) (hn : e.2.1 <+: A → e.2.1.length ≤ n) : LongN (E ++ [e]) A n v := by
  refine ⟨?_, fun x hx hp => ?_⟩
  · rcases h.1 with a | ⟨x, hx, k⟩
    · exact Or.inl a
    · exact Or.inr ⟨x, List.mem_append_left _ hx, k⟩
  · rcases List.mem_append.1 hx with a | a
    · exact h.2 x a hp
    · rw [List.mem_singleton] at a; subst a; exact hn hp
theorem LongN.step_yes {E : List RE} {A : List Int} {n : Nat} {v : Int} {e : RE} (h : LongN E A n v) (hp : e.2.1 <+: A) (hn : n < e.2.1.length) : LongN (E ++ [e]) A e.2.1.length e.2.2 := by
  refine ⟨Or.inr ⟨e, by simp, hp, by omega, rfl, rfl⟩, fun x hx hp2 => ?_⟩
  rcases List.mem_append.1 hx with a | a
  · have := h.2 x a hp2; omega
  · rw [List.mem_singleton] at a; subst a; exact Nat.le_refl _
set_option maxRecDepth 100000 in
set_option maxHeartbeats 4000000 in
theorem long13_any (w : World) (B c n ca : Nat) (ao at' : Option Addr) (E : List RE) (A : List Int) (h : EO 54 w B (.slice ao E.length c) E) (hA : IArg w at' n ca A) (hl : E.length ≤ 1000) (hq : ∀ e ∈ E, e.2.1.length ≤ 1000) (hn : n ≤ 1000) :
   Calls Try.prog 17 #[.slice ao E.length c, .slice at' n ca] w fun e w' => ∃ (m : Nat) (v : Int), e = .returned (.tuple #[.int .i64 (m : Int), .int .i64 v]) ∧ LongN E A m v ∧ Below w.heap.size w w' := by
  have HH : Hid (EO 54 w B (.slice ao E.length c) E) := h
  have HA : Hid (IArg w at' n ca A) := hA
  clear h hA
  go_enter Try.func17, Try.ntmps17
  go_wp2_with fail
  go_loopg [6, 7, 12] E.length (fun r s6 s7 s12 wr => ∃ (i m : Nat) (v : Int), i ≤ E.length ∧ r = E.length - i ∧ s12 = .int .i64 (i : Int) ∧ s6 = .int .i64 (m : Int) ∧ s7 = .int .i64 v ∧ m ≤ 1000 ∧ Hid (LongN (E.take i) A m v) ∧ Below w.heap.size w wr)
  case atStart => exact ⟨0, 0, 0, by omega, by omega, rfl, rfl, rfl, by omega, ⟨Or.inl ⟨rfl, rfl⟩, fun e he => by rw [List.take_zero] at he; cases he⟩, Below.refl _ _⟩
  case round =>
    obtain ⟨i, m, v, hi, rfl, rfl, rfl, rfl, hm, hno, BB⟩ := hrel
    by_cases hlt : i < E.length
    case neg =>
      obtain rfl : i = E.length := by omega
      have hf : Hid (LongN E A m v) := by have h := hno.out; rw [List.take_length] at h; exact h
      go_wp2_with fail
      go_ret2
      exact ⟨m, v, rfl, hf.out, BB⟩
    case pos =>
      obtain ⟨g1, rfl, hg1, hc⟩ := HH.out.cells (by omega)
      obtain ⟨k0, k1⟩ := hc i hlt
      obtain ⟨sa, sc, es, hR⟩ := HH.out.slice hlt
      have hqi := hq _ (List.getElem_mem hlt)
      rw [es] at k0
      have kk0 : wr.cell? ⟨g1, i * 2, none⟩ = some (.slice sa E[i].2.1.length sc) := by rw [BB.cell (by exact hg1)]; exact k0
      have kk1 : wr.cell? ⟨g1, i * 2 + 1, none⟩ = some (.int .i64 E[i].2.2) := by rw [BB.cell (by exact hg1)]; exact k1
      have BV : Below wr.heap.size wr (wr.alloc (.cells #[.slice sa E[i].2.1.length sc, .int .i64 E[i].2.2] 54)) := below_alloc _ _
      have BW := below_then BB BV
      have ce0 : (wr.alloc (.cells #[.slice sa E[i].2.1.length sc, .int .i64 E[i].2.2] 54)).cell? ⟨wr.heap.size, 0, none⟩ = some (.slice sa E[i].2.1.length sc) := by rw [World.cell?_alloc_at _ _ _ _ (by simp)]; rfl
      have ce1 : (wr.alloc (.cells #[.slice sa E[i].2.1.length sc, .int .i64 E[i].2.2] 54)).cell? ⟨wr.heap.size, 1, none⟩ = some (.int .i64 E[i].2.2) := by rw [World.cell?_alloc_at _ _ _ _ (by simp)]; rfl
      have CB := begins_any _ sa at' E[i].2.1.length n sc ca E[i].2.1 A (hR.below BW).row (HA.out.below BW).row (by omega) (by omega)
      have hsn : Hid ((E[i].2.1 <+: A → E[i].2.1.length ≤ m) → LongN (E.take (i + 1)) A m v) := fun h => by rw [List.take_succ_eq_append_getElem hlt]; exact hno.out.step_no h
      have hsy : Hid (E[i].2.1 <+: A → m < E[i].2.1.length → LongN (E.take (i + 1)) A E[i].2.1.length E[i].2.2) := fun h1 h2 => by rw [List.take_succ_eq_append_getElem hlt]; exact hno.out.step_yes h1 h2
      clear hc k0 k1 hno hR es
      generalize E[i].2.1 = q at *
      generalize E[i].2.2 = u at *
      generalize hwv : wr.alloc (.cells #[.slice sa q.length sc, .int .i64 u] 54) = wv at *
      by_cases hp : q <+: A
      · rw [decide_eq_true hp] at CB
        by_cases hgt : m < q.length
        · have HN : Hid (LongN (E.take (i + 1)) A q.length u) := hsy.out hp hgt
          clear hsn hsy hp BV
          go_wp2_with (go_at_call 26; refine CB.mono ?_; clear CB; rintro e w3 ⟨rfl, m3, h3⟩; have ce3 : w3.cell? ⟨wr.heap.size, 0, none⟩ = some (.slice sa q.length sc) := (by rw [h3]; exact ce0); have ce4 : w3.cell? ⟨wr.heap.size, 1, none⟩ = some (.int .i64 u) := (by rw [h3]; exact ce1); have B3 : Below w.heap.size w w3 := (by rw [h3]; exact below_drewN BW m3); clear h3)
          go_roundg (E.length - (i + 1))
          case measure => omega
          case rel => exact ⟨i + 1, q.length, u, by omega, rfl, by go_num, rfl, rfl, by omega, HN, B3⟩
        · have HN : Hid (LongN (E.take (i + 1)) A m v) := hsn.out (fun _ => by omega)
          clear hsn hsy hp BV
          go_wp2_with (go_at_call 26; refine CB.mono ?_; clear CB; rintro e w3 ⟨rfl, m3, h3⟩; have ce3 : w3.cell? ⟨wr.heap.size, 0, none⟩ = some (.slice sa q.length sc) := (by rw [h3]; exact ce0); have B3 : Below w.heap.size w w3 := (by rw [h3]; exact below_drewN BW m3); clear h3)
          go_roundg (E.length - (i + 1))
          case measure => omega
          case rel => exact ⟨i + 1, m, v, by omega, rfl, by go_num, rfl, rfl, by omega, HN, B3⟩
      · rw [decide_eq_false hp] at CB
        have HN : Hid (LongN (E.take (i + 1)) A m v) := hsn.out (fun h => absurd h hp)
        clear hsn hsy hp BV
        go_wp2_with (go_at_call 26; refine CB.mono ?_; clear CB; rintro e w3 ⟨rfl, m3, h3⟩; have B3 : Below w.heap.size w w3 := (by rw [h3]; exact below_drewN BW m3); clear h3)
        go_roundg (E.length - (i + 1))
        case measure => omega
        case rel => exact ⟨i + 1, m, v, by omega, rfl, by go_num, rfl, rfl, by omega, HN, B3⟩
end Go.Proofs.Ytomfkdaaimhmkaa
