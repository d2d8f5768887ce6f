/-
  The hash of 64 bits on natural numbers: a byte's step, texts, and that nothing is lost; numbers as digits.
-/
import Derived.Test.YtkffaimemmgfeaaDoorRows
import Derived.WalkKit
namespace Go.Proofs.YtkffaimemmgfeaaDoor.Fnv

def M64 : Nat := 18446744073709551616
def fac : Nat := 1099511628211
def vic : Nat := 14886173955864302971
theorem fac_vic : fac * vic % M64 = 1 := by kernel_rfl
theorem M64_is : M64 = 18446744073709551616 := rfl

theorem mul_inj (M f g x y : Nat) (h : f * g % M = 1) (hx : x < M) (hy : y < M) (e : x * f % M = y * f % M) : x = y := by
  have key : ∀ z, z < M → z * f % M * g % M = z := by
    intro z hz
    rw [Nat.mul_mod, Nat.mod_mod, ← Nat.mul_mod, Nat.mul_assoc, Nat.mul_mod, h, Nat.mul_one, Nat.mod_mod, Nat.mod_eq_of_lt hz]
  rw [← key x hx, e, key y hy]

/-- the product, round 2^64 -/
def mulF (x : Nat) : Nat := x * fac % M64
theorem mulF_lt (x : Nat) : mulF x < M64 := Nat.mod_lt _ (by rw [M64_is]; omega)
theorem mulF_inj {x y : Nat} (hx : x < M64) (hy : y < M64) (e : mulF x = mulF y) : x = y := mul_inj M64 fac vic x y fac_vic hx hy e

theorem xor_back (c a : Nat) : c ^^^ (c ^^^ a) = a := by rw [← Nat.xor_assoc, Nat.xor_self, Nat.zero_xor]
theorem xor_left {c a b : Nat} (h : c ^^^ a = c ^^^ b) : a = b := by rw [← xor_back c a, h, xor_back]
theorem xor_right {c a b : Nat} (h : a ^^^ c = b ^^^ c) : a = b := by
  rw [Nat.xor_comm a, Nat.xor_comm b] at h
  exact xor_left h
theorem xor_in {a b : Nat} (ha : a < M64) (hb : b < 256) : a ^^^ b < M64 := by
  have := Nat.xor_lt_two_pow (n := 64) (x := a) (y := b) (by rw [M64_is] at ha; omega) (by omega)
  rw [M64_is]; omega

/-- a byte's step -/
def fn1 (h b : Nat) : Nat := mulF (h ^^^ b)
theorem fn1_lt (h b : Nat) : fn1 h b < M64 := mulF_lt _
theorem fn1_injH {h g b : Nat} (hh : h < M64) (hg : g < M64) (hb : b < 256) (e : fn1 h b = fn1 g b) : h = g := xor_right (mulF_inj (xor_in hh hb) (xor_in hg hb) e)
theorem fn1_injB {h b c : Nat} (hh : h < M64) (hb : b < 256) (hc : c < 256) (e : fn1 h b = fn1 h c) : b = c := xor_left (mulF_inj (xor_in hh hb) (xor_in hh hc) e)

/-- a text behind a hash -/
def fnR (h : Nat) (l : List Nat) : Nat := l.foldl fn1 h
theorem fnR_one (h b : Nat) : fnR h [b] = fn1 h b := by unfold fnR; rw [List.foldl_cons, List.foldl_nil]
theorem fnR_append (h : Nat) (l m : List Nat) : fnR h (l ++ m) = fnR (fnR h l) m := by unfold fnR; rw [List.foldl_append]
theorem fnR_lt {l : List Nat} {h : Nat} (hh : h < M64) : fnR h l < M64 := by
  induction l generalizing h with
  | nil => exact hh
  | cons b l ih => exact ih (fn1_lt h b)
theorem fnR_inj {l : List Nat} (hl : ∀ b ∈ l, b < 256) : ∀ {h g : Nat}, h < M64 → g < M64 → fnR h l = fnR g l → h = g := by
  induction l with
  | nil => intro h g _ _ e; exact e
  | cons b l ih =>
    intro h g hh hg e
    exact fn1_injH hh hg (hl b (by simp)) (ih (fun c hc => hl c (by simp [hc])) (fn1_lt h b) (fn1_lt g b) e)
theorem fnR_turn {l m : List Nat} {b c h : Nat} (hm : ∀ x ∈ m, x < 256) (hh : h < M64) (hb : b < 256) (hc : c < 256) (e : fnR h (l ++ c :: m) = fnR h (l ++ b :: m)) : c = b := by
  rw [fnR_append, fnR_append] at e
  exact fn1_injB (fnR_lt hh) hc hb (fnR_inj hm (fn1_lt _ _) (fn1_lt _ _) e)

/-- one digit -/
def digB (d : Nat) : UInt8 := UInt8.ofNat (if d < 10 then 48 + d else 87 + d)
/-- the lowest k digits, the highest of them first -/
def hexK : Nat → Nat → List UInt8
  | 0, _ => []
  | k + 1, h => hexK k (h / 16) ++ [digB (h % 16)]
/-- all sixteen -/
def hexL (h : Nat) : List UInt8 := hexK 16 h
theorem hexK_length : ∀ k h, (hexK k h).length = k
  | 0, _ => rfl
  | k + 1, h => by rw [hexK, List.length_append, hexK_length k]; rfl
theorem digB_all : ∀ a, a < 16 → ∀ b, b < 16 → digB a = digB b → a = b := by decide
theorem digB_inj (a b : Nat) (ha : a < 16) (hb : b < 16) (e : digB a = digB b) : a = b := digB_all a ha b hb e
theorem hexK_inj : ∀ k h g, h < 16 ^ k → g < 16 ^ k → hexK k h = hexK k g → h = g
  | 0, h, g, hh, hg, _ => by simp at hh hg; omega
  | k + 1, h, g, hh, hg, e => by
    rw [hexK, hexK] at e
    obtain ⟨e1, e2⟩ := List.append_inj e (by rw [hexK_length, hexK_length])
    rw [Nat.pow_succ] at hh hg
    have h1 := hexK_inj k _ _ (by omega) (by omega) e1
    have h2 := digB_inj _ _ (by omega) (by omega) (List.cons.inj e2).1
    omega
theorem hexL_inj {h g : Nat} (hh : h < M64) (hg : g < M64) (e : hexL h = hexL g) : h = g := hexK_inj 16 h g (by rw [M64_is] at hh; omega) (by rw [M64_is] at hg; omega) e
/-- one digit more, put ahead -/
theorem hexK_front : ∀ k h, hexK (k + 1) h = digB (h / 16 ^ k % 16) :: hexK k h
  | 0, h => by simp [hexK]
  | k + 1, h => by
    rw [hexK, hexK_front k, hexK, List.cons_append, Nat.div_div_eq_div_mul, ← Nat.pow_succ']
theorem hexK_zero : ∀ k, hexK k 0 = List.replicate k 48
  | 0 => rfl
  | k + 1 => by rw [hexK, Nat.zero_div, hexK_zero k, List.replicate_succ']; rfl
/-- noughts ahead of a small number -/
theorem hexK_more : ∀ n k h, h < 16 ^ n → hexK (k + n) h = List.replicate k 48 ++ hexK n h
  | 0, k, h, hh => by
    simp at hh
    subst hh
    rw [Nat.add_zero, hexK_zero]; simp [hexK]
  | n + 1, k, h, hh => by
    rw [Nat.pow_succ] at hh
    rw [← Nat.add_assoc, hexK, hexK, hexK_more n k (h / 16) (by omega), List.append_assoc]
theorem hexL_more {n h : Nat} (hn : n ≤ 16) (hh : h < 16 ^ n) : hexL h = List.replicate (16 - n) 48 ++ hexK n h := by
  unfold hexL
  rw [← hexK_more n (16 - n) h hh, Nat.sub_add_cancel hn]
end Go.Proofs.YtkffaimemmgfeaaDoor.Fnv
