/-
  Hushes as lists: which may be, whether labels are hushed at a time, and when they are free.
-/
import Derived.Test.YtkckdombcnifnaaLabA
namespace Go.Proofs.Ytkckdombcnifnaa
open Go.RowKit
set_option linter.unusedVariables false

def timeB (n : Int) : Bool := decide (0 ≤ n) && decide (n ≤ 1099511627776)
def hushR (f t : Int) (ms : List M3) : Bool := timeB f && timeB t && decide (f < t) && decide (1 ≤ ms.length) && (decide (ms.length ≤ 4) && !ms.any fun m => !matB m)
/-- a message: its kind, its labels, and its hush's times and matchers -/
abbrev MsgL := Int × List L2 × Int × Int × List M3
def msgR (m : MsgL) : Bool := if m.1 = 2 then (decide (m.2.1.length = 0) && hushR m.2.2.1 m.2.2.2.1 m.2.2.2.2) else ((decide (m.1 = 0) || decide (m.1 = 1)) && rightB m.2.1 && decide (m.2.2.1 = 0) && decide (m.2.2.2.1 = 0) && decide (m.2.2.2.2.length = 0))
theorem hushR_is (f t : Int) (ms : List M3) : hushR f t ms = (timeB f && (timeB t && (decide (f < t) && (decide (1 ≤ ms.length) && matsB ms)))) := by
  unfold hushR matsB
  simp only [Bool.and_assoc]
theorem msgR_hush (l : List L2) (f t : Int) (ms : List M3) : msgR (2, l, f, t, ms) = (decide (l.length = 0) && hushR f t ms) := rfl
theorem time_iff (n : Int) : timeB n = true ↔ 0 ≤ n ∧ n ≤ 1099511627776 := by unfold timeB; simp

/-- a hush: from, to, what it asks for -/
abbrev T3 := Int × Int × List M3
abbrev zT : T3 := (0, 0, [])
def okT (h : T3) : Bool := hushR h.1 h.2.1 h.2.2
/-- which are hushes -/
def hshT (l : List T3) : Bool := decide (l.length ≤ 8) && !l.any fun h => !okT h
/-- it hushes labels at a time -/
def onT (L : List L2) (now : Int) (h : T3) : Bool := decide (h.1 ≤ now) && (decide (now < h.2.1) && h.2.2.all (mB L))
def actT (l : List T3) (L : List L2) (now : Int) : Bool := l.any (onT L now)
/-- those that are not over -/
def keptT (l : List T3) (now : Int) : List T3 := l.filter fun h => decide (now < h.2.1)
/-- t is the first time from now on at which labels are not hushed -/
def FreeT (l : List T3) (L : List L2) (now t : Int) : Prop := now ≤ t ∧ (∀ s, now ≤ s → s < t → actT l L s = true) ∧ actT l L t = false

theorem hshT_mem {l : List T3} (h : hshT l = true) {x : T3} (hx : x ∈ l) : okT x = true := by
  unfold hshT at h
  simp only [Bool.and_eq_true, Bool.not_eq_true'] at h
  have := List.any_eq_false.1 h.2 x hx
  simpa using this
theorem hshT_len {l : List T3} (h : hshT l = true) : l.length ≤ 8 := by
  unfold hshT at h
  simp only [Bool.and_eq_true, decide_eq_true_eq] at h
  exact h.1
theorem hshT_mk {l : List T3} (h8 : l.length ≤ 8) (h : ∀ x ∈ l, okT x = true) : hshT l = true := by
  unfold hshT
  simp only [Bool.and_eq_true, decide_eq_true_eq, Bool.not_eq_true']
  refine ⟨h8, List.any_eq_false.2 fun x hx => ?_⟩
  rw [h x hx]
  simp
theorem okT_parts {h : T3} (e : okT h = true) : timeB h.1 = true ∧ timeB h.2.1 = true ∧ h.1 < h.2.1 ∧ matsB h.2.2 = true := by
  unfold okT at e
  rw [hushR_is] at e
  simp only [Bool.and_eq_true, decide_eq_true_eq] at e
  exact ⟨e.1, e.2.1, e.2.2.1, e.2.2.2.2⟩
theorem actT_iff {l : List T3} {L : List L2} {now : Int} : actT l L now = true ↔ ∃ h ∈ l, h.1 ≤ now ∧ now < h.2.1 ∧ h.2.2.all (mB L) = true := by
  unfold actT
  rw [List.any_eq_true]
  constructor
  · rintro ⟨h, hm, e⟩
    unfold onT at e
    simp only [Bool.and_eq_true, decide_eq_true_eq] at e
    exact ⟨h, hm, e.1, e.2.1, e.2.2⟩
  · rintro ⟨h, hm, e1, e2, e3⟩
    refine ⟨h, hm, ?_⟩
    unfold onT
    simp only [Bool.and_eq_true, decide_eq_true_eq]
    exact ⟨e1, e2, e3⟩
theorem actT_congr {l m : List T3} {L : List L2} {now : Int} (h : ∀ x, x ∈ l ↔ x ∈ m) : actT l L now = actT m L now := by
  rw [Bool.eq_iff_iff, actT_iff, actT_iff]
  exact ⟨fun ⟨x, hx, e⟩ => ⟨x, (h x).1 hx, e⟩, fun ⟨x, hx, e⟩ => ⟨x, (h x).2 hx, e⟩⟩

theorem FreeT.unique {l : List T3} {L : List L2} {now t u : Int} (h : FreeT l L now t) (k : FreeT l L now u) : t = u := by
  rcases Int.lt_trichotomy t u with e | e | e
  · have := k.2.1 t h.1 e
    rw [h.2.2] at this
    cases this
  · exact e
  · have := h.2.1 u k.1 e
    rw [k.2.2] at this
    cases this
theorem FreeT.later {l : List T3} {L : List L2} {now t s : Int} (h : FreeT l L now t) (h1 : now ≤ s) (h2 : s ≤ t) : FreeT l L s t := ⟨h2, fun r hr hrt => h.2.1 r (by omega) hrt, h.2.2⟩
theorem FreeT.act {l : List T3} {L : List L2} {now t : Int} (h : FreeT l L now t) : actT l L now = decide (now < t) := by
  by_cases e : now < t
  · rw [h.2.1 now (Int.le_refl _) e, decide_eq_true e]
  · have := h.1
    obtain rfl : now = t := by omega
    rw [h.2.2, decide_eq_false e]
theorem FreeT.ends {l : List T3} {L : List L2} {now t : Int} (h : FreeT l L now t) (hlt : now < t) : ∃ x ∈ l, x.2.1 = t := by
  obtain ⟨x, hx, e1, e2, e3⟩ := actT_iff.1 (h.2.1 (t - 1) (by omega) (by omega))
  refine ⟨x, hx, ?_⟩
  by_cases e : x.2.1 = t
  · exact e
  · have := actT_iff.2 ⟨x, hx, (by omega : x.1 ≤ t), (by omega : t < x.2.1), e3⟩
    rw [h.2.2] at this
    cases this
theorem FreeT.time {l : List T3} {L : List L2} {now t : Int} (h : FreeT l L now t) (hl : hshT l = true) (hn : timeB now = true) : timeB t = true := by
  by_cases e : now < t
  · obtain ⟨x, hx, rfl⟩ := h.ends e
    exact (okT_parts (hshT_mem hl hx)).2.1
  · have := h.1
    obtain rfl : now = t := by omega
    exact hn
theorem FreeT.congr {l m : List T3} {L : List L2} {now t : Int} (h : FreeT l L now t) (e : ∀ x, x ∈ l ↔ x ∈ m) : FreeT m L now t :=
  ⟨h.1, fun s h1 h2 => (actT_congr e).symm.trans (h.2.1 s h1 h2), (actT_congr e).symm.trans h.2.2⟩

/-- going through them as they begin -/
def goT (now : Int) (l : List T3) : Int := l.foldl (fun u h => if h.1 ≤ u then max u h.2.1 else u) now
theorem goT_cons (now : Int) (h : T3) (l : List T3) : goT now (h :: l) = goT (if h.1 ≤ now then max now h.2.1 else now) l := rfl
theorem goT_snoc (now : Int) (h : T3) (l : List T3) : goT now (l ++ [h]) = if h.1 ≤ goT now l then max (goT now l) h.2.1 else goT now l := by unfold goT; rw [List.foldl_append]; rfl
theorem goT_far (now : Int) : ∀ l : List T3, (∀ x ∈ l, now < x.1) → goT now l = now
  | [], _ => rfl
  | h :: l, hl => by
    have := hl h (by simp)
    rw [goT_cons, if_neg (by omega)]
    exact goT_far now l fun x hx => hl x (by simp [hx])
theorem goT_holds : ∀ (l : List T3) (now : Int), (l.Pairwise fun x y => x.1 ≤ y.1) → now ≤ goT now l ∧ (∀ s, now ≤ s → s < goT now l → ∃ x ∈ l, x.1 ≤ s ∧ s < x.2.1) ∧ ∀ x ∈ l, x.2.1 ≤ goT now l ∨ goT now l < x.1
  | [], now, _ => ⟨Int.le_refl _, fun s h1 h2 => by
      have : goT now [] = now := rfl
      omega, fun x hx => by cases hx⟩
  | h :: l, now, hs => by
    obtain ⟨hh, hs'⟩ := List.pairwise_cons.1 hs
    by_cases e : h.1 ≤ now
    · obtain ⟨i1, i2, i3⟩ := goT_holds l (max now h.2.1) hs'
      rw [goT_cons, if_pos e]
      refine ⟨by omega, fun s h1 h2 => ?_, fun x hx => ?_⟩
      · by_cases e2 : max now h.2.1 ≤ s
        · obtain ⟨x, hx, e3⟩ := i2 s e2 h2
          exact ⟨x, by simp [hx], e3⟩
        · exact ⟨h, by simp, by omega, by omega⟩
      · rcases List.mem_cons.1 hx with rfl | hx
        · left; omega
        · exact i3 x hx
    · have hf : goT now l = now := goT_far now l fun x hx => by have := hh x hx; omega
      rw [goT_cons, if_neg e, hf]
      refine ⟨Int.le_refl _, fun s h1 h2 => absurd h2 (by omega), fun x hx => ?_⟩
      right
      rcases List.mem_cons.1 hx with rfl | hx
      · omega
      · have := hh x hx; omega
theorem goT_free {l m : List T3} {L : List L2} (now : Int) (hs : m.Pairwise fun x y => x.1 ≤ y.1) (hm : ∀ x, x ∈ m ↔ x ∈ l ∧ x.2.2.all (mB L) = true) : FreeT l L now (goT now m) := by
  obtain ⟨i1, i2, i3⟩ := goT_holds m now hs
  refine ⟨i1, fun s h1 h2 => ?_, ?_⟩
  · obtain ⟨x, hx, e1, e2⟩ := i2 s h1 h2
    obtain ⟨h3, h4⟩ := (hm x).1 hx
    exact actT_iff.2 ⟨x, h3, e1, e2, h4⟩
  · cases e : actT l L (goT now m) with
    | false => rfl
    | true =>
      obtain ⟨x, hx, e1, e2, e3⟩ := actT_iff.1 e
      rcases i3 x ((hm x).2 ⟨hx, e3⟩) with h | h <;> omega

/-- the document's own: the first end at which they are not hushed -/
def stepE (l : List T3) (L : List L2) (now out : Int) (h : T3) : Int := if (decide (now < h.2.1) && (decide (h.2.1 < out) && !actT l L h.2.1)) = true then h.2.1 else out
def endsT (l : List T3) (L : List L2) (now : Int) (m : List T3) : Int := m.foldl (stepE l L now) 1099511627776
def refFreeT (l : List T3) (L : List L2) (now : Int) : Int := if actT l L now = true then endsT l L now l else now
theorem endsT_snoc (l : List T3) (L : List L2) (now : Int) (m : List T3) (h : T3) : endsT l L now (m ++ [h]) = stepE l L now (endsT l L now m) h := by unfold endsT; rw [List.foldl_append]; rfl
theorem foldE_holds (l : List T3) (L : List L2) (now : Int) : ∀ (m : List T3) (out : Int), (m.foldl (stepE l L now) out ≤ out) ∧ (m.foldl (stepE l L now) out = out ∨ ∃ x ∈ m, m.foldl (stepE l L now) out = x.2.1 ∧ now < x.2.1 ∧ actT l L x.2.1 = false) ∧ ∀ x ∈ m, now < x.2.1 → actT l L x.2.1 = false → m.foldl (stepE l L now) out ≤ x.2.1
  | [], out => ⟨Int.le_refl _, .inl rfl, fun x hx => by cases hx⟩
  | h :: m, out => by
    obtain ⟨i1, i2, i3⟩ := foldE_holds l L now m (stepE l L now out h)
    rw [List.foldl_cons]
    have hs : stepE l L now out h = if (decide (now < h.2.1) && (decide (h.2.1 < out) && !actT l L h.2.1)) = true then h.2.1 else out := rfl
    by_cases e : (decide (now < h.2.1) && (decide (h.2.1 < out) && !actT l L h.2.1)) = true
    · rw [if_pos e] at hs
      simp only [Bool.and_eq_true, decide_eq_true_eq, Bool.not_eq_true'] at e
      refine ⟨by omega, ?_, fun x hx h1 h2 => ?_⟩
      · rcases i2 with h2 | ⟨x, hx, h2⟩
        · exact .inr ⟨h, by simp, h2.trans hs, e.1, e.2.2⟩
        · exact .inr ⟨x, by simp [hx], h2⟩
      · rcases List.mem_cons.1 hx with rfl | hx
        · omega
        · exact i3 x hx h1 h2
    · rw [if_neg e] at hs
      refine ⟨by omega, ?_, fun x hx h1 h2 => ?_⟩
      · rcases i2 with h2 | ⟨x, hx, h2⟩
        · exact .inl (h2.trans hs)
        · exact .inr ⟨x, by simp [hx], h2⟩
      · rcases List.mem_cons.1 hx with rfl | hx
        · have : ¬ x.2.1 < out := fun h3 => e (by
            simp only [Bool.and_eq_true, decide_eq_true_eq, Bool.not_eq_true']
            exact ⟨h1, h3, h2⟩)
          omega
        · exact i3 x hx h1 h2
theorem FreeT.ref {l : List T3} {L : List L2} {now t : Int} (h : FreeT l L now t) (ht : timeB t = true) : refFreeT l L now = t := by
  have ht' := ((time_iff t).1 ht).2
  unfold refFreeT
  by_cases e : now < t
  · rw [h.2.1 now (Int.le_refl _) e, if_pos rfl]
    obtain ⟨i1, i2, i3⟩ := foldE_holds l L now l 1099511627776
    obtain ⟨x, hx, hxt⟩ := h.ends e
    have h1 := i3 x hx (by omega) (by rw [hxt]; exact h.2.2)
    have h2 : t ≤ endsT l L now l := by
      rcases i2 with h3 | ⟨y, hy, h3, h4, h5⟩
      · unfold endsT; omega
      · have : ¬ y.2.1 < t := fun h6 => by
          have := h.2.1 y.2.1 (by omega) h6
          rw [h5] at this
          cases this
        unfold endsT; omega
    unfold endsT at *
    omega
  · have := h.1
    obtain rfl : now = t := by omega
    rw [h.2.2]
    rfl

/-- one more: what is over makes no difference -/
theorem kept_act {l : List T3} {L : List L2} {now s : Int} (h : now ≤ s) : actT (keptT l now) L s = actT l L s := by
  rw [Bool.eq_iff_iff, actT_iff, actT_iff]
  unfold keptT
  constructor
  · rintro ⟨x, hx, e⟩
    exact ⟨x, (List.mem_filter.1 hx).1, e⟩
  · rintro ⟨x, hx, e1, e2, e3⟩
    refine ⟨x, List.mem_filter.2 ⟨hx, ?_⟩, e1, e2, e3⟩
    simp
    omega
theorem act_append (l m : List T3) (L : List L2) (s : Int) : actT (l ++ m) L s = (actT l L s || actT m L s) := by unfold actT; rw [List.any_append]
end Go.Proofs.Ytkckdombcnifnaa
