/- What calls do to how many pages are free, needed and idle. -/
import Derived.Test.YtfkmmjfahdpfcaaPStep
import Derived.Test.YtfkmmjfahdpfcaaPView
namespace Go.Proofs.Ytfkmmjfahdpfcaa
open Go.ChangeShapes Go.WideShapes Go.ChangeAt Go.RowKit
theorem takeR_len (x : St) : (takeR x).x.L.length = x.L.length := by
  unfold takeR
  split
  · simp
  · split <;> simp
theorem holdR_len (x : St) (i : Int) : (holdR x i).x.L.length = x.L.length := by
  unfold holdR
  split
  · rfl
  · split
    · rfl
    · simp
theorem sealR_len (x : St) (i k : Int) : (sealR x i k).x.L.length = x.L.length := by
  unfold sealR
  split
  · rfl
  · split
    · rfl
    · simp
theorem dropR_len (x : St) (i : Int) : (dropR x i).x.L.length = x.L.length := by
  unfold dropR
  split
  · rfl
  · simp
theorem forgetR_len (x : St) (i : Int) : (forgetR x i).x.L.length = x.L.length := by
  unfold forgetR
  split
  · simp
  · rfl
/-- The pool behind a call. -/
def actR (z : Act3) (x : St) : St := if z.kind = 1 then (takeR x).x else if z.kind = 2 then (holdR x z.i).x else if z.kind = 3 then (sealR x z.i z.key).x else if z.kind = 4 then (dropR x z.i).x else if z.kind = 5 then (forgetR x z.i).x else x
theorem actR_len (z : Act3) (x : St) : (actR z x).L.length = x.L.length := by
  unfold actR
  split
  · exact takeR_len x
  split
  · exact holdR_len x _
  split
  · exact sealR_len x _ _
  split
  · exact dropR_len x _
  split
  · exact forgetR_len x _
  · rfl
theorem find_lt {f : Pg → Bool} {L : List Pg} (h : 0 < cnt f L) : L.findIdx f < L.length := by
  rw [List.findIdx_lt_length]
  unfold cnt at h
  obtain ⟨x, hx⟩ := List.exists_mem_of_length_pos h
  rw [List.mem_filter] at hx
  exact ⟨x, hx⟩
theorem find_not {f : Pg → Bool} {L : List Pg} (h : cnt f L = 0) : ¬ L.findIdx f < L.length := fun h2 => by
  have := cnt_zero h
  rw [idxN_pos h2] at this
  omega
theorem one_free : one.free = false := rfl
theorem takeR_free (x : St) (h : 0 < cnt Pg.free x.L) : (takeR x).did = false ∧ (takeR x).e = 0 ∧ (takeR x).x.I = x.I ∧ cnt Pg.free (takeR x).x.L + 1 = cnt Pg.free x.L := by
  have hf := find_lt h
  unfold takeR
  rw [if_pos hf]
  refine ⟨rfl, rfl, rfl, ?_⟩
  have hfr : (pg x.L (x.L.findIdx Pg.free)).free = true := by rw [← pg_get hf]; exact List.findIdx_getElem
  have := cnt_set Pg.free x.L (x.L.findIdx Pg.free) one hf
  rw [if_pos hfr, if_neg (by rw [one_free]; simp)] at this
  exact this
theorem takeR_idle (x : St) (hw : WF x.L x.I) (h : cnt Pg.free x.L = 0) (hI : 0 < x.I.length) : (takeR x).did = true ∧ (takeR x).e = 0 ∧ (takeR x).x.I.length + 1 = x.I.length ∧ cnt Pg.free (takeR x).x.L = 0 := by
  obtain ⟨L, I⟩ := x
  cases I with
  | nil => simp at hI
  | cons i R =>
    unfold takeR
    rw [if_neg (find_not h)]
    have hi := (hw.mem i).1 (by simp)
    have hn := List.nodup_cons.1 hw.nodup
    refine ⟨rfl, rfl, ?_, ?_⟩
    · have e : less (i :: R) i = R := by
        unfold less
        rw [List.filter_cons, if_neg (by simp), List.filter_eq_self]
        intro a ha
        have : a ≠ i := fun e => hn.1 (e ▸ ha)
        simpa using this
      show (less (i :: R) i).length + 1 = _
      rw [e]; rfl
    · have := cnt_set Pg.free L i one hi.1
      have hf : (pg L i).free = false := by
        cases hq : (pg L i).free with
        | false => rfl
        | true => have := free_not_idle hq; rw [hi.2] at this; cases this
      rw [hf, one_free] at this
      simp at this
      show cnt Pg.free (L.set i one) = 0
      rw [this]; exact h
theorem takeR_full (x : St) (h : cnt Pg.free x.L = 0) (hI : x.I = []) : (takeR x).e = 10 ∧ (takeR x).x = x := by
  obtain ⟨L, I⟩ := x
  simp only at hI h
  subst hI
  unfold takeR
  rw [if_neg (find_not h)]
  exact ⟨rfl, rfl⟩
/-- Free, needed and idle pages, as Counts tells them. -/
theorem counts_in {w : World} {b : Nat} {x : St} (h : In w b x) : ∃ f m j : Nat, f = cnt Pg.free x.L ∧ m = need x.L ∧ j = x.I.length ∧ f + m + j = x.L.length ∧ Calls Try.prog 17 #[.pointer (some ⟨b + 1, 0, none⟩)] w fun e w' => e = .returned (.tuple #[.int .i64 (f : Int), .int .i64 (m : Int), .int .i64 (j : Int)]) ∧ Below w.heap.size w w' := by
  have h1 := cnt_all x.L
  have h2 := h.wf.len
  have C := counts_any b x.L x.I w h.at' h.few h.few2
  have e : (x.L.length : Int) - (need x.L : Int) - (x.I.length : Int) = (cnt Pg.free x.L : Int) := by omega
  rw [e] at C
  exact ⟨_, _, _, rfl, rfl, rfl, by omega, C⟩
/-- The page of a key, as Find tells it, isn't open. -/
theorem find_in (b : Nat) (key : Int) (x : St) : (∃ k : Nat, k < x.L.length ∧ (∀ w, In w b x → Calls Try.prog 18 #[.pointer (some ⟨b + 1, 0, none⟩), .int .i64 key] w (fun e w' => e = .returned (.tuple #[.int .i64 (k : Int), .bool true]) ∧ Below w.heap.size w w')) ∧ (pg x.L k).open = false ∧ idxN (Pg.hit key) x.L = k) ∨ ((∀ w, In w b x → Calls Try.prog 18 #[.pointer (some ⟨b + 1, 0, none⟩), .int .i64 key] w (fun e w' => e = .returned (.tuple #[.int .i64 0, .bool false]) ∧ Below w.heap.size w w')) ∧ idxN (Pg.hit key) x.L = -1) := by
  have C := fun w (h : In w b x) => find_any b key x.L x.I w h.at' h.few
  rcases idxN_cases (Pg.hit key) x.L with ⟨e, _⟩ | ⟨k, hk, e, h3, _⟩
  · rw [e] at C
    exact Or.inr ⟨C, e⟩
  · rw [e, show max (k : Int) 0 = k by omega, decide_eq_true (show 0 ≤ (k : Int) by omega)] at C
    refine Or.inl ⟨k, hk, C, ?_, e⟩
    unfold Pg.hit at h3
    simp at h3
    unfold Pg.open
    rw [h3.1]; simp
theorem Turns.apart {b k : Nat} {w w' : World} (h : Turns b w w') (hk : k < w.heap.size) (h1 : b + 2 ≤ k) (h2 : idleBlk w b ≠ some k) : w'.heap[k]? = w.heap[k]? := h.block k hk (by omega) (by omega) h2
theorem In.idle_lt {w : World} {b : Nat} {x : St} (h : In w b x) : ∀ k, idleBlk w b = some k → b + 2 ≤ k ∧ k < w.heap.size := fun k hk => by
  obtain ⟨vi, K1, _, K3⟩ := h.at'.idle
  rw [idleBlk_of (K1.cell 1 (v := vi) rfl)] at hk
  exact K3 k hk
end Go.Proofs.Ytfkmmjfahdpfcaa
