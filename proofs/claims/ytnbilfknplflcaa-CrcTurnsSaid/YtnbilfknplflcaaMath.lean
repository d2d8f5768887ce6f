/-
  The sum of 32 bits on natural numbers: its step is linear in xor and loses nothing; so texts of one length that differ within four bytes side by side have unlike sums.
-/
import Derived.WalkKit
namespace Go.Proofs.Ytnbilfknplflcaa.Math

/-- one of the eight steps of a byte -/
def step1 (r : Nat) : Nat := if r % 2 = 1 then (r / 2) ^^^ 3988292384 else r / 2
/-- k steps -/
def steps : Nat → Nat → Nat
  | 0, r => r
  | k + 1, r => step1 (steps k r)
def step8 (r : Nat) : Nat := steps 8 r
def upd (r b : Nat) : Nat := step8 (r ^^^ b)
def reg (r : Nat) (l : List Nat) : Nat := l.foldl upd r
def xorC (c r : Nat) : Nat := c ^^^ r
def not32 (r : Nat) : Nat := xorC 4294967295 r

theorem xor_lt {a b : Nat} (ha : a < 4294967296) (hb : b < 4294967296) : a ^^^ b < 4294967296 := by
  have := Nat.xor_lt_two_pow (n := 32) (x := a) (y := b) (by omega) (by omega)
  omega

theorem step1_lt {r : Nat} (h : r < 4294967296) : step1 r < 4294967296 := by
  unfold step1
  split
  · exact xor_lt (by omega) (by omega)
  · omega

theorem steps_lt (k : Nat) {r : Nat} (h : r < 4294967296) : steps k r < 4294967296 := by
  induction k with
  | zero => exact h
  | succ k ih => exact step1_lt ih

theorem upd_lt {r b : Nat} (h : r < 4294967296) (hb : b < 256) : upd r b < 4294967296 :=
  steps_lt 8 (xor_lt h (by omega))

theorem reg_lt {l : List Nat} (hl : ∀ b ∈ l, b < 256) : ∀ {r : Nat}, r < 4294967296 → reg r l < 4294967296 := by
  induction l with
  | nil => intro r h; exact h
  | cons b l ih =>
    intro r h
    exact ih (fun c hc => hl c (by simp [hc])) (upd_lt h (hl b (by simp)))

theorem not32_lt {r : Nat} (h : r < 4294967296) : not32 r < 4294967296 := by
  have : ∀ c, c < 4294967296 → xorC c r < 4294967296 := fun c hc => xor_lt hc h
  exact this 4294967295 (by omega)

theorem xor_back (c a : Nat) : c ^^^ (c ^^^ a) = a := by
  rw [← Nat.xor_assoc, Nat.xor_self, Nat.zero_xor]
theorem xor_zero_iff {a b : Nat} : a ^^^ b = 0 ↔ a = b := by
  constructor
  · intro h
    have := xor_back a b
    rw [h, Nat.xor_zero] at this
    exact this
  · intro h; rw [h, Nat.xor_self]
theorem xor_cancel {c a b : Nat} (h : c ^^^ a = c ^^^ b) : a = b := by
  rw [← xor_back c a, h, xor_back]
theorem xorC_inj (c : Nat) {a b : Nat} (h : xorC c a = xorC c b) : a = b := xor_cancel h
theorem xorC_xorC (c a : Nat) : xorC c (xorC c a) = a := xor_back c a
theorem not32_inj {a b : Nat} (h : not32 a = not32 b) : a = b := xorC_inj 4294967295 h
theorem not32_not32 (a : Nat) : not32 (not32 a) = a := xorC_xorC 4294967295 a

theorem step1_xor (a b : Nat) : step1 (a ^^^ b) = step1 a ^^^ step1 b := by
  have hd : (a ^^^ b) / 2 = a / 2 ^^^ b / 2 := by
    have := Nat.shiftRight_xor_distrib (a := a) (b := b) (i := 1)
    simpa [Nat.shiftRight_eq_div_pow] using this
  have hm : (a ^^^ b) % 2 = (a + b) % 2 := by
    have := Nat.xor_mod_two_pow (a := a) (b := b) (n := 1)
    rw [Nat.pow_one] at this
    rw [this]
    rcases Nat.mod_two_eq_zero_or_one a with ha | ha <;> rcases Nat.mod_two_eq_zero_or_one b with hb | hb <;> rw [ha, hb]
    · exact (by omega : 0 = (a + b) % 2)
    · exact (by omega : 1 = (a + b) % 2)
    · exact (by omega : 1 = (a + b) % 2)
    · exact (by omega : 0 = (a + b) % 2)
  unfold step1
  rw [hd, hm]
  rcases Nat.mod_two_eq_zero_or_one a with ha | ha <;> rcases Nat.mod_two_eq_zero_or_one b with hb | hb
  · rw [if_neg (by omega), if_neg (by omega), if_neg (by omega)]
  · rw [if_pos (by omega), if_neg (by omega), if_pos (by omega), Nat.xor_assoc]
  · rw [if_pos (by omega), if_pos (by omega), if_neg (by omega)]
    rw [Nat.xor_assoc, Nat.xor_assoc, Nat.xor_comm (b / 2)]
  · rw [if_neg (by omega), if_pos (by omega), if_pos (by omega)]
    rw [Nat.xor_assoc, Nat.xor_comm (b / 2), ← Nat.xor_assoc 3988292384, Nat.xor_self, Nat.zero_xor]

theorem step1_zero {r : Nat} (h : r < 4294967296) (hz : step1 r = 0) : r = 0 := by
  unfold step1 at hz
  split at hz
  · have := xor_zero_iff.1 hz
    omega
  · omega

theorem steps_xor (k a b : Nat) : steps k (a ^^^ b) = steps k a ^^^ steps k b := by
  induction k with
  | zero => rfl
  | succ k ih => simp only [steps]; rw [ih, step1_xor]

theorem steps_zero (k : Nat) {r : Nat} (h : r < 4294967296) (hz : steps k r = 0) : r = 0 := by
  induction k with
  | zero => exact hz
  | succ k ih => exact ih (step1_zero (steps_lt k h) hz)

theorem steps_of_zero (k : Nat) : steps k 0 = 0 := by
  induction k with
  | zero => rfl
  | succ k ih => simp only [steps]; rw [ih]; rfl

theorem step1_double (x : Nat) : step1 (2 * x) = x := by
  unfold step1
  rw [if_neg (by omega)]
  omega

theorem steps_succ' (k r : Nat) : steps (k + 1) r = steps k (step1 r) := by
  induction k with
  | zero => rfl
  | succ k ih => rw [steps, ih, ← steps]

theorem steps_pow (k x : Nat) : steps k (2 ^ k * x) = x := by
  induction k generalizing x with
  | zero => simp [steps]
  | succ k ih =>
    rw [steps_succ', show 2 ^ (k + 1) * x = 2 * (2 ^ k * x) by rw [Nat.pow_succ, Nat.mul_comm (2 ^ k) 2, Nat.mul_assoc], step1_double, ih]

theorem step8_256 (x : Nat) : step8 (256 * x) = x := steps_pow 8 x

theorem upd_xor (a b c d : Nat) : upd (a ^^^ b) (c ^^^ d) = upd a c ^^^ upd b d := by
  unfold upd step8
  rw [← steps_xor]
  congr 1
  rw [Nat.xor_assoc, Nat.xor_assoc, ← Nat.xor_assoc b, ← Nat.xor_assoc c, Nat.xor_comm b]

theorem reg_append (r : Nat) (l m : List Nat) : reg r (l ++ m) = reg (reg r l) m := by
  unfold reg; rw [List.foldl_append]

/-- n times a byte's steps -/
def rounds8 : Nat → Nat → Nat
  | 0, r => r
  | n + 1, r => rounds8 n (step8 r)
theorem rounds8_zero (n : Nat) : ∀ {r : Nat}, r < 4294967296 → rounds8 n r = 0 → r = 0 := by
  induction n with
  | zero => intro r _ h; exact h
  | succ n ih => intro r h hz; exact steps_zero 8 h (ih (steps_lt 8 h) hz)
theorem rounds8_of_zero (n : Nat) : rounds8 n 0 = 0 := by
  induction n with
  | zero => rfl
  | succ n ih =>
    rw [rounds8]
    have : step8 0 = 0 := steps_of_zero 8
    rw [this, ih]
def word : List Nat → Nat
  | [] => 0
  | b :: bs => b ^^^ (256 * word bs)
theorem reg_word (bs : List Nat) : ∀ d, reg d bs = rounds8 bs.length (d ^^^ word bs) := by
  induction bs with
  | nil => intro d; simp [reg, rounds8, word]
  | cons b bs ih =>
    intro d
    have h1 : reg d (b :: bs) = reg (upd d b) bs := rfl
    rw [h1, ih, List.length_cons, rounds8]
    congr 1
    have h2 : step8 (d ^^^ word (b :: bs)) = step8 (d ^^^ b) ^^^ step8 (256 * word bs) := by
      unfold step8
      rw [← steps_xor, word, Nat.xor_assoc]
    rw [h2, step8_256, upd]
theorem word_lt (bs : List Nat) (hb : ∀ b ∈ bs, b < 256) : word bs < 256 ^ bs.length := by
  induction bs with
  | nil => simp [word]
  | cons b bs ih =>
    have h1 := ih (fun c hc => hb c (by simp [hc]))
    have h2 : b < 256 := hb b (by simp)
    have e : 2 ^ (8 * (bs.length + 1)) = 256 ^ bs.length * 256 := by rw [Nat.pow_mul, Nat.pow_succ]
    have h3 : 0 < 256 ^ bs.length := Nat.pow_pos (by omega)
    rw [List.length_cons, Nat.pow_succ, ← e, word]
    refine Nat.xor_lt_two_pow ?_ ?_
    · rw [e]; omega
    · rw [e]; omega
theorem word_zero (bs : List Nat) (hb : ∀ b ∈ bs, b < 256) (hz : word bs = 0) : ∀ b ∈ bs, b = 0 := by
  induction bs with
  | nil => intro b h; cases h
  | cons b bs ih =>
    have h2 : b < 256 := hb b (by simp)
    rw [word, xor_zero_iff] at hz
    have hw : word bs = 0 := by omega
    have hb0 : b = 0 := by omega
    have hr := ih (fun c hc => hb c (by simp [hc])) hw
    intro c hc
    rcases List.mem_cons.1 hc with rfl | hc
    · exact hb0
    · exact hr c hc
theorem word_of_zero (bs : List Nat) (hz : ∀ b ∈ bs, b = 0) : word bs = 0 := by
  induction bs with
  | nil => rfl
  | cons b bs ih =>
    rw [word, ih (fun c hc => hz c (by simp [hc])), hz b (by simp)]
    rfl

/-- texts that part by bytes: the registers part by that of what parts them -/
theorem reg_zip (l : List Nat) : ∀ (m : List Nat) (r s : Nat), l.length = m.length → reg r l ^^^ reg s m = reg (r ^^^ s) (List.zipWith (· ^^^ ·) l m) := by
  induction l with
  | nil => intro m r s h; cases m with
    | nil => rfl
    | cons _ _ => simp at h
  | cons x l ih => intro m r s h; cases m with
    | nil => simp at h
    | cons y m =>
      have e1 : reg r (x :: l) = reg (upd r x) l := rfl
      have e2 : reg s (y :: m) = reg (upd s y) m := rfl
      have e3 : reg (r ^^^ s) (List.zipWith (· ^^^ ·) (x :: l) (y :: m)) = reg (upd (r ^^^ s) (x ^^^ y)) (List.zipWith (· ^^^ ·) l m) := rfl
      rw [e1, e2, e3, upd_xor]
      exact ih m _ _ (by simpa using h)

/-- the first bytes of l with those of bs, bit by bit unlike -/
def tw : List Nat → List Nat → List Nat
  | [], _ => []
  | l, [] => l
  | x :: l, b :: bs => (x ^^^ b) :: tw l bs

theorem tw_length (l : List Nat) : ∀ bs, (tw l bs).length = l.length := by
  induction l with
  | nil => intro bs; simp [tw]
  | cons x l ih => intro bs; cases bs with
    | nil => simp [tw]
    | cons b bs => simp [tw, ih]

theorem zip_self (l : List Nat) : ∀ b ∈ List.zipWith (· ^^^ ·) l l, b = 0 := by
  induction l with
  | nil => intro b h; simp at h
  | cons x l ih =>
    intro b h
    rw [List.zipWith_cons_cons] at h
    rcases List.mem_cons.1 h with rfl | h
    · exact Nat.xor_self x
    · exact ih b h

theorem reg_zeros (zs : List Nat) (hz : ∀ b ∈ zs, b = 0) (d : Nat) : reg d zs = rounds8 zs.length d := by
  rw [reg_word, word_of_zero zs hz, Nat.xor_zero]

theorem zip_tw (l : List Nat) : ∀ bs, ∃ zs, (∀ b ∈ zs, b = 0) ∧ List.zipWith (· ^^^ ·) (tw l bs) l = bs.take l.length ++ zs := by
  induction l with
  | nil => intro bs; exact ⟨[], by simp, by simp [tw]⟩
  | cons x l ih => intro bs; cases bs with
    | nil => exact ⟨_, zip_self (x :: l), by simp [tw]⟩
    | cons b bs =>
      obtain ⟨zs, hz, h⟩ := ih bs
      refine ⟨zs, hz, ?_⟩
      have e : (x ^^^ b) ^^^ x = b := by rw [Nat.xor_comm x b, Nat.xor_assoc, Nat.xor_self, Nat.xor_zero]
      rw [tw, List.zipWith_cons_cons, h, e]
      simp

/-- THE STAGE's THEOREM ON NUMBERS -/
theorem turns (r : Nat) (pre l bs : List Nat) (hb : ∀ b ∈ bs, b < 256) (h4 : bs.length ≤ 4) :
    reg r (pre ++ tw l bs) = reg r (pre ++ l) ↔ ∀ b ∈ bs.take l.length, b = 0 := by
  obtain ⟨zs, hz, h⟩ := zip_tw l bs
  have hD := reg_zip (tw l bs) l (reg r pre) (reg r pre) (tw_length l bs)
  rw [Nat.xor_self, h, reg_append, reg_zeros zs hz, reg_word (bs.take l.length), Nat.zero_xor] at hD
  rw [reg_append, reg_append, ← xor_zero_iff, hD]
  have hbt : ∀ b ∈ bs.take l.length, b < 256 := fun b hbm => hb b (List.mem_of_mem_take hbm)
  have hlen : (bs.take l.length).length ≤ 4 := by rw [List.length_take]; omega
  have hw : word (bs.take l.length) < 4294967296 := by
    have h1 := word_lt _ hbt
    have h2 : 256 ^ (bs.take l.length).length ≤ 256 ^ 4 := Nat.pow_le_pow_right (by omega) hlen
    omega
  constructor
  · intro hz
    have : ∀ n {x}, x < 4294967296 → rounds8 n x < 4294967296 := by
      intro n
      induction n with
      | zero => intro x h; exact h
      | succ n ih => intro x h; exact ih (steps_lt 8 h)
    exact word_zero _ hbt (rounds8_zero _ hw (rounds8_zero _ (this _ hw) hz))
  · intro hz
    rw [word_of_zero _ hz, rounds8_of_zero, rounds8_of_zero]
end Go.Proofs.Ytnbilfknplflcaa.Math
