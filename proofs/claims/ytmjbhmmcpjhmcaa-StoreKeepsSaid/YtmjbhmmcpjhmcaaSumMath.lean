/-
  The sum of 32 bits on natural numbers.
-/
import Derived.WalkKit
namespace Go.Proofs.Ytmjbhmmcpjhmcaa.Math

/-- one of the eight steps of a byte -/
def step1 (r : Nat) : Nat := if r % 2 = 1 then (r / 2) ^^^ 3988292384 else r / 2
/-- k steps -/
def steps : Nat → Nat → Nat
  | 0, r => r
  | k + 1, r => step1 (steps k r)
def step8 (r : Nat) : Nat := steps 8 r
def upd (r b : Nat) : Nat := step8 (r ^^^ b)
def reg (r : Nat) (l : List Nat) : Nat := l.foldl upd r
def xorC (c r : Nat) : Nat := c ^^^ r
def not32 (r : Nat) : Nat := xorC 4294967295 r

theorem xor_lt {a b : Nat} (ha : a < 4294967296) (hb : b < 4294967296) : a ^^^ b < 4294967296 := by
  have := Nat.xor_lt_two_pow (n := 32) (x := a) (y := b) (by omega) (by omega)
  omega

theorem step1_lt {r : Nat} (h : r < 4294967296) : step1 r < 4294967296 := by
  unfold step1
  split
  · exact xor_lt (by omega) (by omega)
  · omega

theorem steps_lt (k : Nat) {r : Nat} (h : r < 4294967296) : steps k r < 4294967296 := by
  induction k with
  | zero => exact h
  | succ k ih => exact step1_lt ih

theorem upd_lt {r b : Nat} (h : r < 4294967296) (hb : b < 256) : upd r b < 4294967296 :=
  steps_lt 8 (xor_lt h (by omega))

theorem reg_lt {l : List Nat} (hl : ∀ b ∈ l, b < 256) : ∀ {r : Nat}, r < 4294967296 → reg r l < 4294967296 := by
  induction l with
  | nil => intro r h; exact h
  | cons b l ih =>
    intro r h
    exact ih (fun c hc => hl c (by simp [hc])) (upd_lt h (hl b (by simp)))

theorem not32_lt {r : Nat} (h : r < 4294967296) : not32 r < 4294967296 := by
  have : ∀ c, c < 4294967296 → xorC c r < 4294967296 := fun c hc => xor_lt hc h
  exact this 4294967295 (by omega)

theorem xor_back (c a : Nat) : c ^^^ (c ^^^ a) = a := by
  rw [← Nat.xor_assoc, Nat.xor_self, Nat.zero_xor]
theorem xor_zero_iff {a b : Nat} : a ^^^ b = 0 ↔ a = b := by
  constructor
  · intro h
    have := xor_back a b
    rw [h, Nat.xor_zero] at this
    exact this
  · intro h; rw [h, Nat.xor_self]
theorem xor_cancel {c a b : Nat} (h : c ^^^ a = c ^^^ b) : a = b := by
  rw [← xor_back c a, h, xor_back]
theorem xorC_inj (c : Nat) {a b : Nat} (h : xorC c a = xorC c b) : a = b := xor_cancel h
theorem xorC_xorC (c a : Nat) : xorC c (xorC c a) = a := xor_back c a
theorem not32_inj {a b : Nat} (h : not32 a = not32 b) : a = b := xorC_inj 4294967295 h
theorem not32_not32 (a : Nat) : not32 (not32 a) = a := xorC_xorC 4294967295 a

theorem reg_append (r : Nat) (l m : List Nat) : reg r (l ++ m) = reg (reg r l) m := by
  unfold reg; rw [List.foldl_append]

end Go.Proofs.Ytmjbhmmcpjhmcaa.Math
