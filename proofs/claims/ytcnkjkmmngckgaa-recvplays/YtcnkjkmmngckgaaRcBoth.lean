/- One part more, on both sides; the whole, on both sides. -/
import Derived.Test.YtcnkjkmmngckgaaRcRef3
namespace Go.Proofs.Ytcnkjkmmngckgaa
open Go.ChangeShapes Go.WideShapes Go.ChangeAt Go.RowKit
theorem both_step {S : List ByteArray} {C : List Bool} {n : Nat} {R : List (Int × ByteArray)} (h : Both S C n R) (h0 : 0 < n) (hn : n ≤ 512) (num pn pa po : Int) (pt : ByteArray) :
    ∃ (b : Bool) (r : Int) (S' : List ByteArray) (C' : List Bool) (R' : List (Int × ByteArray)), Both S' C' n R' ∧
      (∀ (W : World) (a : Option Addr) (c : Nat) (a2 : Option Addr) (c2 : Nat), VArg W a n c (strs S) → VArg W a2 n c2 (bools C) → Calls Try.prog 7 #[.agg #[.int .i64 num, .slice a n c, .slice a2 n c2], .agg #[.int .i64 pn, .int .i64 pa, .int .i64 po, .string pt]] W fun e w' => ∃ a c a2 c2, e = .returned (.tuple #[.agg #[.int .i64 num, .slice a n c, .slice a2 n c2], .bool b, .int .i64 r]) ∧ VOwn w' W.heap.size 9 (.slice a n c) n (strs S') ∧ VOwn w' W.heap.size 4 (.slice a2 n c2) n (bools C') ∧ Below W.heap.size W w') ∧
      (∀ (W : World) (a : Option Addr) (m c : Nat), CArg W a m c R → Calls Try.prog 8 #[.agg #[.int .i64 num, .int .i64 (n : Int), .slice a m c], .int .i64 pn, .int .i64 pa, .int .i64 po, .string pt] W fun e w' => ∃ a' m' c', e = .returned (.tuple #[.agg #[.int .i64 num, .int .i64 (n : Int), .slice a' m' c'], .bool b, .int .i64 r]) ∧ CArg w' a' m' c' R' ∧ Below W.heap.size W w') := by
  have hz : ∀ s ∈ S, s.size ≤ 140737488355328 := fun s hs => by have := h.small s hs; omega
  have hcnt := h.cnt
  have hle : ∀ {W : World} {a : Option Addr} {m c : Nat}, CArg W a m c R → m ≤ 100000 := fun hA => by have := hA.len; omega
  by_cases q : takeN num n n S C pn pa po pt = 0
  · obtain ⟨_, rfl, rfl, q3, q4, q5, q6⟩ := takeN_zero q
    obtain ⟨k, rfl⟩ : ∃ k : Nat, pa = (k : Int) := ⟨pa.toNat, by omega⟩
    rw [Int.toNat_natCast] at q6
    have hk : k < n := by omega
    have hf := h.find k hk
    cases hb : be C k with
    | true =>
      have hse := q6 hb
      rw [hb, if_pos rfl, hse] at hf
      refine ⟨false, 0, S, C, R, h, fun W a c a2 c2 h1 h2 => take_known pn pt a a2 n c c2 k S C W h1 h2 (by omega) hz hk q5 hb hse, fun W a m c hA => ?_⟩
      refine (rtake_known pn n k pt a m c R W hA (hle hA) (by omega) (by omega) q5 hf).mono ?_
      rintro e w' ⟨rfl, B⟩
      exact ⟨a, m, c, rfl, hA.below B, B⟩
    | false =>
      rw [hb] at hf
      refine ⟨true, 0, S.set k pt, C.set k true, R ++ [((k : Int), pt)], h.new hk hb pt q5, fun W a c a2 c2 h1 h2 => take_new pn pt a a2 n c c2 k S C W h1 h2 (by omega) hz hk q5 hb, fun W a m c hA => ?_⟩
      refine (rtake_new pn n k pt a m c R W hA (hle hA) (by omega) (by omega) q5 hf).mono ?_
      rintro e w' ⟨a', c', rfl, A', B⟩
      exact ⟨a', m + 1, c', rfl, A', B⟩
  · refine ⟨false, takeN num n n S C pn pa po pt, S, C, R, h, fun W a c a2 c2 h1 h2 => take_bad num pn pa po pt a a2 n c n c2 S C W h1 h2 (by omega) (by omega) hz q, fun W a m c hA => ?_⟩
    have q' := q
    rw [← both_code h h0] at q'
    have T := rtake_bad num n pn pa po pt a m c R W hA (hle hA) q'
    rw [both_code h h0] at T
    refine T.mono ?_
    rintro e w' ⟨rfl, B⟩
    exact ⟨a, m, c, rfl, hA.below B, B⟩
theorem both_whole {S : List ByteArray} {C : List Bool} {n : Nat} {R : List (Int × ByteArray)} (h : Both S C n R) (h0 : 0 < n) (hn : n ≤ 512) (num : Int) :
    ∃ (T : ByteArray) (b : Bool),
      (∀ (W : World) (a : Option Addr) (c : Nat) (a2 : Option Addr) (c2 : Nat), VArg W a n c (strs S) → VArg W a2 n c2 (bools C) → Calls Try.prog 9 #[.agg #[.int .i64 num, .slice a n c, .slice a2 n c2]] W fun e w' => e = .returned (.tuple #[.string T, .bool b]) ∧ Below W.heap.size W w') ∧
      (∀ (W : World) (a : Option Addr) (m c : Nat), CArg W a m c R → Calls Try.prog 10 #[.agg #[.int .i64 num, .int .i64 (n : Int), .slice a m c]] W fun e w' => e = .returned (.tuple #[.string T, .bool b]) ∧ Below W.heap.size W w') := by
  have hcnt := h.cnt
  have hle : ∀ {W : World} {a : Option Addr} {m c : Nat}, CArg W a m c R → m ≤ 100000 := fun hA => by have := hA.len; omega
  have hcat := catS_small S h.small
  have hls := h.lenS
  have hcat2 : (catS S).length ≤ 100000000 := by rw [hls] at hcat; omega
  obtain ⟨m, h1, h2, h3⟩ := first_not C n
  have hall : ∀ i, i < m → findC R (i : Int) = some (se S i) := fun i hi => by rw [h.find i (by omega), if_pos (h2 i hi)]
  have hend : m = n ∨ findC R (m : Int) = none := by
    rcases h3 with h3 | h3
    · exact Or.inl h3
    · by_cases e : m = n
      · exact Or.inl e
      · exact Or.inr (by rw [h.find m (by omega), h3]; rfl)
  refine ⟨if m = n then txt (catS S) else ⟨#[]⟩, decide (m = n), fun W a c a2 c2 g1 g2 => ?_, fun W a k c hA => rwhole_any num n m a k c R S W hA (hle hA) hls hcat2 (by omega) h1 hall hend⟩
  by_cases e : m = n
  · subst e
    rw [if_pos rfl, decide_eq_true rfl]
    exact whole_yes num a a2 m c c2 S C W g1 g2 h0 (by omega) (by rw [leftL_all m h2]; rfl) (by omega)
  · rw [if_neg e, decide_eq_false e]
    exact whole_no num a a2 n c n c2 C W g2 (by omega) (Or.inr (leftL_some n m (by omega) (h3.resolve_left e)))
/-- A row of parts that came is no block that holds no text. -/
theorem CArg.off {w w' : World} {ao : Option Addr} {n ca g : Nat} {T : TypeId} {cs : Array Value} {R : List (Int × ByteArray)} (h : CArg w ao n ca R) (X : Blk w g T cs) (hs : ∀ (i : Nat) (t : ByteArray), cs[i]? ≠ some (Value.string t)) (hb : ∀ k, k ≠ g → w'.heap[k]? = w.heap[k]?) : CArg w' ao n ca R := by
  refine ⟨h.len, h.fit, h.max, h.nil, fun hn => ?_⟩
  obtain ⟨b, o, e, hc⟩ := h.cells hn
  refine ⟨b, o, e, fun t ht => ?_⟩
  have hbg : b ≠ g := by
    rintro rfl
    have hl := h.len
    have h1 := hc 1 (by omega)
    have h2 := (flatC_get R 0 (by omega)).2
    rw [Nat.zero_mul, Nat.zero_add] at h2
    rw [h2] at h1
    unfold Blk at X
    unfold World.cell? at h1
    simp only [X] at h1
    exact hs (o + 1) _ (by simpa using h1)
  rw [← hc t ht]
  unfold World.cell?
  simp only [hb b hbg]
end Go.Proofs.Ytcnkjkmmngckgaa
