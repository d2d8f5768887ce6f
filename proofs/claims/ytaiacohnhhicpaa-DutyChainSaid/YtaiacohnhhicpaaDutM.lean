/-
  Duties: which may be, what becomes of them, which comes ahead: plain.
-/
import Derived.Test.YtaiacohnhhicpaaRotM
import Derived.Test.YtaiacohnhhicpaaBackS
namespace Go.Proofs.Ytaiacohnhhicpaa
open Go.RowKit
set_option linter.unusedVariables false

/-- a duty: its labels and five numbers -/
structure D6 where
  ls : List L2
  rt : Int
  pl : Int
  tr : Int
  du : Int
  st : Int
instance : DecidableEq D6 := fun a b => decidable_of_iff (a.ls = b.ls ∧ a.rt = b.rt ∧ a.pl = b.pl ∧ a.tr = b.tr ∧ a.du = b.du ∧ a.st = b.st) ⟨fun h => by
  obtain ⟨a1, a2, a3, a4, a5, a6⟩ := a
  obtain ⟨b1, b2, b3, b4, b5, b6⟩ := b
  obtain ⟨h1, h2, h3, h4, h5, h6⟩ := h
  dsimp only at *
  subst h1 h2 h3 h4 h5 h6
  rfl, fun h => by subst h; exact ⟨rfl, rfl, rfl, rfl, rfl, rfl⟩⟩
abbrev zD : D6 := ⟨[], 0, 0, 0, 0, 0⟩
abbrev dV (v : Value) (d : D6) : Array Value := #[v, .int .i64 d.rt, .int .i64 d.pl, .int .i64 d.tr, .int .i64 d.du, .int .i64 d.st]
abbrev aggD (oa : Option Addr) (n cap : Nat) (d : D6) : Value := .agg (dV (.slice oa n cap) d)
/-- whose turn it is -/
def rcvD (c : CfgL) (rt pl : Int) : R9 := c.1.getD (atP c rt pl).toNat zR
def withB (c : CfgL) (d : D6) : Bool := rightB d.ls && (hasP c d.rt d.pl && (decide (0 ≤ d.tr) && (decide (d.tr < (rcvD c d.rt d.pl).tr) && (timeB d.du && (decide (1 ≤ d.st) && decide (d.st ≤ 3))))))
def dutyR (c : CfgL) (d : D6) : Bool := cfgR c && withB c d
theorem withB_iff (c : CfgL) (d : D6) : withB c d = true ↔ rightB d.ls = true ∧ hasP c d.rt d.pl = true ∧ 0 ≤ d.tr ∧ d.tr < (rcvD c d.rt d.pl).tr ∧ timeB d.du = true ∧ 1 ≤ d.st ∧ d.st ≤ 3 := by
  unfold withB
  simp only [Bool.and_eq_true, decide_eq_true_eq]
theorem dutyR_iff (c : CfgL) (d : D6) : dutyR c d = true ↔ cfgR c = true ∧ withB c d = true := by
  unfold dutyR
  rw [Bool.and_eq_true]
/-- turned to a time -/
def turnD (d : D6) (t : Int) : D6 := { d with pl := 0, tr := 0, du := t }
/-- nobody took it -/
def againD (c : CfgL) (d : D6) (now draw : Int) : D6 :=
  if d.tr + 1 = (rcvD c d.rt d.pl).tr then { d with tr := 0, pl := nextP c d.rt d.pl, du := Bo.addT now (Bo.waitT (rcvD c d.rt d.pl).ba (rcvD c d.rt d.pl).tp (rcvD c d.rt d.pl).ji d.tr draw) }
  else { d with tr := d.tr + 1, du := Bo.addT now (Bo.waitT (rcvD c d.rt d.pl).ba (rcvD c d.rt d.pl).tp (rcvD c d.rt d.pl).ji d.tr draw) }
/-- somebody did -/
def takenD (c : CfgL) (d : D6) (now : Int) : D6 × Bool := if d.st = 3 then (zD, true) else ({ turnD d (Bo.addT now c.2.2.1) with st := 2 }, false)
def overD (d : D6) (now : Int) : D6 × Bool := if d.st = 1 then (zD, true) else ({ turnD d now with st := 3 }, false)
def sentF (c : CfgL) (d : D6) (now : Int) (ok : Bool) (draw : Int) : D6 × Bool × Int :=
  if (dutyR c d && timeB now) = true then
    (if now < d.du then (zD, false, 6) else if ok = true then ((takenD c d now).1, (takenD c d now).2, 0) else (againD c d now draw, false, 0))
  else (zD, false, 1)
def doneF (c : CfgL) (d : D6) (now : Int) : D6 × Bool × Int :=
  if (dutyR c d && timeB now) = true then (if d.st = 3 then (zD, false, 6) else ((overD d now).1, (overD d now).2, 0)) else (zD, false, 1)
def newF (c : CfgL) (l : List L2) (now : Int) : D6 × Int :=
  if ((cfgR c && rightB l) && timeB now) = true then (if rotF c l < 0 then (zD, 4) else (⟨l, rotF c l, 0, 0, now, 1⟩, 0)) else (zD, 1)

/-- a pair is less than another one -/
def ltP (x y : L2) : Bool := ltS x.1 y.1 || (decide (x.1 = y.1) && ltS x.2 y.2)
theorem ltP_irrefl (x : L2) : ltP x x = false := by unfold ltP; simp [ltS_irrefl]
theorem ltP_trans {x y z : L2} (h1 : ltP x y = true) (h2 : ltP y z = true) : ltP x z = true := by
  unfold ltP at *
  simp only [Bool.or_eq_true, Bool.and_eq_true, decide_eq_true_eq] at *
  rcases h1 with h1 | ⟨e1, h1⟩
  · rcases h2 with h2 | ⟨e2, h2⟩
    · exact .inl (ltS_trans h1 h2)
    · exact .inl (e2 ▸ h1)
  · rcases h2 with h2 | ⟨e2, h2⟩
    · exact .inl (e1 ▸ h2)
    · exact .inr ⟨e1.trans e2, ltS_trans h1 h2⟩
theorem ltP_total {x y : L2} (h1 : ltP x y = false) (h2 : ltP y x = false) : x = y := by
  unfold ltP at *
  simp only [Bool.or_eq_false_iff, Bool.and_eq_false_iff, decide_eq_false_iff_not] at h1 h2
  have e1 : x.1 = y.1 := ltS_total h1.1 h2.1
  have e2 : x.2 = y.2 := by
    rcases h1.2 with h | h
    · exact absurd e1 h
    · rcases h2.2 with h' | h'
      · exact absurd e1.symm h'
      · exact ltS_total h h'
  exact Prod.ext e1 e2
theorem ltP_ne {x y : L2} (h : ltP x y = true) : x ≠ y := by
  rintro rfl
  rw [ltP_irrefl] at h
  cases h
/-- labels are less than others: by the first pair that differs, or by having fewer -/
def ltR : List L2 → List L2 → Bool
  | [], [] => false
  | [], _ :: _ => true
  | _ :: _, [] => false
  | x :: a, y :: b => if x = y then ltR a b else ltP x y
theorem ltR_irrefl : ∀ a : List L2, ltR a a = false
  | [] => rfl
  | x :: a => by rw [ltR, if_pos rfl]; exact ltR_irrefl a
theorem ltR_trans : ∀ a b c : List L2, ltR a b = true → ltR b c = true → ltR a c = true
  | [], [], _, h, _ => by simp [ltR] at h
  | _ :: _, [], _, h, _ => by simp [ltR] at h
  | _, _ :: _, [], _, h => by simp [ltR] at h
  | [], _ :: _, _ :: _, _, _ => rfl
  | x :: a, y :: b, z :: c, h1, h2 => by
    rw [ltR] at h1 h2 ⊢
    by_cases e1 : x = y
    · subst e1
      rw [if_pos rfl] at h1
      by_cases e2 : x = z
      · subst e2
        rw [if_pos rfl] at h2 ⊢
        exact ltR_trans a b c h1 h2
      · rw [if_neg e2] at h2 ⊢
        exact h2
    · rw [if_neg e1] at h1
      by_cases e2 : y = z
      · subst e2
        rw [if_neg e1]
        exact h1
      · rw [if_neg e2] at h2
        have h3 := ltP_trans h1 h2
        rw [if_neg (ltP_ne h3)]
        exact h3
theorem ltR_total : ∀ a b : List L2, ltR a b = false → ltR b a = false → a = b
  | [], [], _, _ => rfl
  | [], _ :: _, h, _ => by simp [ltR] at h
  | _ :: _, [], _, h => by simp [ltR] at h
  | x :: a, y :: b, h1, h2 => by
    rw [ltR] at h1 h2
    by_cases e : x = y
    · subst e
      rw [if_pos rfl] at h1 h2
      rw [ltR_total a b h1 h2]
    · rw [if_neg e] at h1
      rw [if_neg (Ne.symm e)] at h2
      exact absurd (ltP_total h1 h2) e
theorem ltR_asymm {a b : List L2} (h : ltR a b = true) : ltR b a = false := by
  cases h2 : ltR b a with
  | false => rfl
  | true => exact absurd (ltR_trans _ _ _ h h2) (by rw [ltR_irrefl]; simp)
/-- one comes ahead of another one -/
def aheadB (a b : D6) : Bool := decide (a.du < b.du) || (decide (a.du = b.du) && ltR a.ls b.ls)
theorem aheadB_iff (a b : D6) : aheadB a b = true ↔ a.du < b.du ∨ (a.du = b.du ∧ ltR a.ls b.ls = true) := by
  unfold aheadB
  simp only [Bool.or_eq_true, Bool.and_eq_true, decide_eq_true_eq]
theorem aheadB_self (a : D6) : aheadB a a = false := by
  cases h : aheadB a a with
  | false => rfl
  | true =>
    rcases (aheadB_iff _ _).1 h with h | ⟨_, h⟩
    · omega
    · rw [ltR_irrefl] at h; cases h
theorem aheadB_trans {a b c : D6} (h1 : aheadB a b = true) (h2 : aheadB b c = true) : aheadB a c = true := by
  rw [aheadB_iff] at *
  rcases h1 with h1 | ⟨e1, h1⟩
  · rcases h2 with h2 | ⟨e2, h2⟩
    · exact .inl (by omega)
    · exact .inl (by omega)
  · rcases h2 with h2 | ⟨e2, h2⟩
    · exact .inl (by omega)
    · exact .inr ⟨by omega, ltR_trans _ _ _ h1 h2⟩
theorem aheadB_asymm {a b : D6} (h : aheadB a b = true) : aheadB b a = false := by
  cases h2 : aheadB b a with
  | false => rfl
  | true => exact absurd (aheadB_trans h h2) (by rw [aheadB_self]; simp)
/-- are two rows the same? -/
def sameR (a b : List L2) : Bool := decide (a = b)
/-- the order, as the law asks it -/
theorem aheadB_same (a b : D6) : (decide (a.du = b.du) && sameR a.ls b.ls) = (!aheadB a b && !aheadB b a) := by
  unfold sameR
  rw [Bool.eq_iff_iff]
  simp only [Bool.and_eq_true, decide_eq_true_eq, Bool.not_eq_true']
  constructor
  · rintro ⟨h1, h2⟩
    unfold aheadB
    rw [h1, h2, ltR_irrefl]
    simp
  · rintro ⟨h1, h2⟩
    unfold aheadB at h1 h2
    simp only [Bool.or_eq_false_iff, Bool.and_eq_false_iff, decide_eq_false_iff_not] at h1 h2
    have e : a.du = b.du := by omega
    refine ⟨e, ltR_total _ _ ?_ ?_⟩
    · rcases h1.2 with h | h
      · exact absurd e h
      · exact h
    · rcases h2.2 with h | h
      · exact absurd e.symm h
      · exact h
end Go.Proofs.Ytaiacohnhhicpaa
