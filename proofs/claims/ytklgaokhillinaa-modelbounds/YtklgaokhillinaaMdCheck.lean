/- Whether numbers fit a configuration: sides, one layer, all. -/
import Derived.Test.YtklgaokhillinaaMdGen
namespace Go.Proofs.Ytklgaokhillinaa
open Go.ChangeShapes Go.WideShapes Go.ChangeAt Go.RowKit
/-- A slice, a matrix, a layer, a model, as values. -/
structure Sl where
  ao : Option Addr
  n : Nat
  c : Nat
def Sl.v (s : Sl) : Value := .slice s.ao s.n s.c
structure Mt where
  r : Int
  c : Int
  d : Sl
structure Bk where
  f : Sl
  q : Mt
  k : Mt
  v : Mt
  o : Mt
  s : Sl
  u : Mt
  d : Mt
def Bk.cells (b : Bk) : Array Value := bcs b.f.v (.int .i64 b.q.r) (.int .i64 b.q.c) b.q.d.v (.int .i64 b.k.r) (.int .i64 b.k.c) b.k.d.v (.int .i64 b.v.r) (.int .i64 b.v.c) b.v.d.v (.int .i64 b.o.r) (.int .i64 b.o.c) b.o.d.v b.s.v (.int .i64 b.u.r) (.int .i64 b.u.c) b.u.d.v (.int .i64 b.d.r) (.int .i64 b.d.c) b.d.d.v
structure Wt where
  e : Mt
  b : Sl
  l : Sl
  o : Mt
def Wt.cells (W : Wt) : Array Value := #[.int .i64 W.e.r, .int .i64 W.e.c, W.e.d.v, W.b.v, W.l.v, .int .i64 W.o.r, .int .i64 W.o.c, W.o.d.v]
structure Mt.Ok (m : Mt) : Prop where
  r : I64 m.r
  c : I64 m.c
structure Bk.Ok (b : Bk) : Prop where
  f : b.f.n ≤ 9223372036854775807
  q : b.q.Ok
  k : b.k.Ok
  v : b.v.Ok
  o : b.o.Ok
  s : b.s.n ≤ 9223372036854775807
  u : b.u.Ok
  d : b.d.Ok
/-- Is it a sound matrix of so many rows and columns? -/
def sidesB (m : Mt) (R K : Int) : Bool := decide (chkN m.r m.c m.d.n = 0 ∧ m.r = R ∧ m.c = K)
def bkB (D H : Int) (b : Bk) : Bool := decide ((b.f.n : Int) = D) && decide ((b.s.n : Int) = D) && sidesB b.q D D && sidesB b.k D D && sidesB b.v D D && sidesB b.o D D && sidesB b.u H D && sidesB b.d D H
set_option maxHeartbeats 800000 in
theorem hasSides_any (m : Mt) (R K : Int) (w : World) (hm : m.Ok) :
   Calls Try.prog 37 #[matV m.r m.c m.d.ao m.d.n m.d.c, .int .i64 R, .int .i64 K] w fun e w' => e = .returned (.bool (sidesB m R K)) ∧ Below w.heap.size w w' := by
  obtain ⟨r, c, ⟨ao, n, ca⟩⟩ := m
  have hr := hm.r
  have hc := hm.c
  clear hm
  unfold I64 at hr hc
  have X0 := box_new w r c ao n ca
  have B0 : Below w.heap.size w (w.alloc (.cells #[.int .i64 r, .int .i64 c, .slice ao n ca] 26)) := (Below.refl _ _).alloc (Nat.le_refl _) _
  have C := fun wv => check_any r c ao n ca wv hr hc
  show Calls Try.prog 37 #[matV r c ao n ca, .int .i64 R, .int .i64 K] w _
  unfold matV at *
  generalize hw0 : w.alloc (.cells #[.int .i64 r, .int .i64 c, .slice ao n ca] 26) = w0 at *
  have c0 := X0.c0
  have c1 := X0.c1
  have c2 := X0.c2
  go_enter Try.func37, Try.ntmps37
  go_wp2_with fail
  refine (C w0).mono ?_
  rintro e w1 ⟨rfl, B1⟩
  replace X0 := X0.below B1
  replace B1 := below_then B0 B1
  replace c0 := X0.c0
  replace c1 := X0.c1
  clear hw0 C X0 c2 B0
  by_cases h1 : chkN r c n = 0
  · by_cases h2 : r = R
    · by_cases h3 : c = K
      · subst h2 h3
        have HS : Hid (sidesB ⟨r, c, ⟨ao, n, ca⟩⟩ r c = true) := by show _ = _; unfold sidesB; rw [decide_eq_true ⟨h1, rfl, rfl⟩]
        rw [h1]
        go_wp2
        go_ret
        exact ⟨by rw [HS.out]; rfl, B1⟩
      · have HS : Hid (sidesB ⟨r, c, ⟨ao, n, ca⟩⟩ R K = false) := by show _ = _; unfold sidesB; rw [decide_eq_false (fun h => h3 h.2.2)]
        have h3' : (c == K) = false := by simpa using h3
        subst h2
        rw [h1]
        go_wp2
        go_ret
        exact ⟨by rw [HS.out]; rfl, B1⟩
    · have HS : Hid (sidesB ⟨r, c, ⟨ao, n, ca⟩⟩ R K = false) := by show _ = _; unfold sidesB; rw [decide_eq_false (fun h => h2 h.2.1)]
      have h2' : (r == R) = false := by simpa using h2
      rw [h1]
      go_wp2
      go_ret
      exact ⟨by rw [HS.out]; rfl, B1⟩
  · have HS : Hid (sidesB ⟨r, c, ⟨ao, n, ca⟩⟩ R K = false) := by show _ = _; unfold sidesB; rw [decide_eq_false (fun h => h1 h.1)]
    have h1' : (chkN r c n == 0) = false := by simpa using h1
    generalize chkN r c n = q at *
    go_wp2
    go_ret
    exact ⟨by rw [HS.out]; rfl, B1⟩
end Go.Proofs.Ytklgaokhillinaa
