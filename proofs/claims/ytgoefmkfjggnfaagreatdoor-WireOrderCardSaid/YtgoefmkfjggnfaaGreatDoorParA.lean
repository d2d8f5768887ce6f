/-
  What a text says, as the program reads it: a word with an equal sign is a label's, whatever its name and value.
-/
import Derived.Test.YtgoefmkfjggnfaaGreatDoorWirZ
namespace Go.Proofs.YtgoefmkfjggnfaaGreatDoor
open Go.RowKit Go.Shelf
set_option linter.unusedVariables false

def alertC (k : Int) (ws : List (List UInt8)) : MsgL × Int := match allO (labelW []) ws with
  | none => (zMsg, 13)
  | some l => if (sortF l).2 = 0 then ((k, (sortF l).1, 0, 0, []), 0) else (zMsg, (sortF l).2)
theorem alertC_none {k : Int} {ws : List (List UInt8)} (h : allO (labelW []) ws = none) : alertC k ws = (zMsg, 13) := by unfold alertC; rw [h]
theorem alertC_ok {k : Int} {ws : List (List UInt8)} {l : List L2} (h : allO (labelW []) ws = some l) (h0 : (sortF l).2 = 0) : alertC k ws = ((k, (sortF l).1, 0, 0, []), 0) := by unfold alertC; rw [h]; simp only; rw [if_pos h0]
theorem alertC_no {k : Int} {ws : List (List UInt8)} {l : List L2} (h : allO (labelW []) ws = some l) (h0 : (sortF l).2 ≠ 0) : alertC k ws = (zMsg, (sortF l).2) := by unfold alertC; rw [h]; simp only; rw [if_neg h0]
/-- what the program tells of a text's words -/
def wordsP (ws : List (List UInt8)) : MsgL × Int := if ws.getD 0 [] = fireT then alertC 0 (ws.drop 1) else if ws.getD 0 [] = doneT then alertC 1 (ws.drop 1) else if ws.getD 0 [] = hushT then hushB (ws.drop 1) else (zMsg, 10)
def parseP (l : List UInt8) : MsgL × Int := if 200 < l.length then (zMsg, 2) else wordsP (splitW [] l)
theorem labels_odd : ∀ (ws : List (List UInt8)) (l : List L2), allO (labelW []) ws = some l → allO labelB ws = some l ∨ (allO labelB ws = none ∧ l.any noneB = true)
  | [], l, h => by cases h; exact .inl rfl
  | w :: ws, l, h => by
    rw [allO] at h
    cases hw : labelW [] w with
    | none => rw [hw] at h; cases h
    | some x =>
      rw [hw] at h
      simp only at h
      obtain ⟨r, hr, rfl⟩ := Option.map_eq_some_iff.1 h
      have hB : labelB w = okL x := by unfold labelB; rw [hw]; rfl
      have hA : allO labelB (w :: ws) = match okL x with
        | none => none
        | some b => (allO labelB ws).map (b :: ·) := by rw [allO, hB]; cases okL x <;> rfl
      by_cases hx : nameB x.1 = true ∧ valueB x.2 = true
      · have ho : okL x = some x := by unfold okL; rw [if_pos hx]
        rcases labels_odd ws r hr with h1 | ⟨h1, h2⟩
        · left
          rw [hA, ho, h1]
          rfl
        · right
          refine ⟨by rw [hA, ho, h1]; rfl, ?_⟩
          rw [List.any_cons, h2, Bool.or_true]
      · have ho : okL x = none := by unfold okL; rw [if_neg hx]
        right
        refine ⟨by rw [hA, ho], ?_⟩
        have hn : noneB x = true := by
          unfold noneB
          cases h1 : nameB x.1 <;> cases h2 : valueB x.2 <;> simp_all
        rw [List.any_cons, hn, Bool.true_or]
theorem alert_both (k : Int) (ws : List (List UInt8)) : alertC k ws = alertB k ws ∨ (alertB k ws = (zMsg, 13) ∧ (alertC k ws).1 = zMsg ∧ (alertC k ws).2 ≠ 0) := by
  cases h : allO (labelW []) ws with
  | none =>
    left
    rw [alertC_none h]
    unfold alertB
    have hB : allO labelB ws = none := by
      clear k
      induction ws with
      | nil => cases h
      | cons w ws ih =>
        rw [allO] at h ⊢
        cases hw : labelW [] w with
        | none =>
          have hB : labelB w = none := by unfold labelB; rw [hw]; rfl
          rw [hB]
        | some x =>
          rw [hw] at h
          simp only at h
          have h1 : allO (labelW []) ws = none := by
            cases e : allO (labelW []) ws with
            | none => rfl
            | some r => rw [e] at h; cases h
          rw [ih h1]
          cases labelB w <;> rfl
    rw [hB]
  | some l =>
    rcases labels_odd ws l h with h1 | ⟨h1, h2⟩
    · left
      unfold alertC alertB
      rw [h, h1]
    · right
      have hs : sortF l = ([], 1) := by unfold sortF; rw [posB_odd h2]; rfl
      refine ⟨by unfold alertB; rw [h1], ?_, ?_⟩
      · rw [alertC_no h (by rw [hs]; decide)]
      · rw [alertC_no h (by rw [hs]; decide), hs]; decide
where posB_odd {l : List L2} (h : l.any noneB = true) : posB l = false := by unfold posB; rw [h]; simp
theorem parse_both (l : List UInt8) : parseP l = parseB l ∨ ((parseB l).2 ≠ 0 ∧ (parseP l).1 = zMsg ∧ (parseP l).2 ≠ 0) := by
  unfold parseP parseB
  split
  · exact .inl rfl
  unfold wordsP wordsB
  split
  · rcases alert_both 0 ((splitW [] l).drop 1) with h | ⟨h, h1, h2⟩
    · exact .inl h
    · exact .inr ⟨by rw [h]; decide, h1, h2⟩
  split
  · rcases alert_both 1 ((splitW [] l).drop 1) with h | ⟨h, h1, h2⟩
    · exact .inl h
    · exact .inr ⟨by rw [h]; decide, h1, h2⟩
  · exact .inl rfl
theorem parseP_print {m : MsgL} (h : msgR m = true) : parseP (printB m) = (m, 0) := by
  have hp := parse_print h
  rcases parse_both (printB m) with e | ⟨e, _⟩
  · rw [e, hp]
  · rw [hp] at e; exact absurd rfl e
theorem parseP_right {l : List UInt8} {m : MsgL} (h : parseP l = (m, 0)) : msgR m = true := by
  rcases parse_both l with e | ⟨_, _, e⟩
  · rw [e] at h; exact parse_right h
  · rw [h] at e; exact absurd rfl e
theorem parseP_not {l : List UInt8} (h : (parseP l).2 ≠ 0) : (parseP l).1 = zMsg := by
  rcases parse_both l with e | ⟨_, e, _⟩
  · rw [e] at h ⊢; exact parse_not h
  · exact e
theorem parseP_of {l : List UInt8} {m : MsgL} (h : parseB l = (m, 0)) : parseP l = (m, 0) := by
  rcases parse_both l with e | ⟨e, _⟩
  · rw [e, h]
  · rw [h] at e; exact absurd rfl e
theorem parseP_long {s : ByteArray} (h : 200 < s.size) : parseP (bs s) = (zMsg, 2) := by unfold parseP; rw [if_pos (by rw [Array.length_toList]; exact h)]
theorem parseP_short {s : ByteArray} (h : ¬ 200 < s.size) : parseP (bs s) = wordsP (splitW [] (bs s)) := by unfold parseP; rw [if_neg (by rw [Array.length_toList]; exact h)]
theorem wordsP_fire {ws : List (List UInt8)} (h : ws.getD 0 [] = fireT) : wordsP ws = alertC 0 (ws.drop 1) := by unfold wordsP; rw [if_pos h]
theorem wordsP_done {ws : List (List UInt8)} (h : ws.getD 0 [] = doneT) : wordsP ws = alertC 1 (ws.drop 1) := by unfold wordsP; rw [if_neg (by rw [h]; decide), if_pos h]
theorem wordsP_hush {ws : List (List UInt8)} (h : ws.getD 0 [] = hushT) : wordsP ws = hushB (ws.drop 1) := by unfold wordsP; rw [if_neg (by rw [h]; decide), if_neg (by rw [h]; decide), if_pos h]
theorem wordsP_odd {ws : List (List UInt8)} (h0 : ws.getD 0 [] ≠ fireT) (h1 : ws.getD 0 [] ≠ doneT) (h2 : ws.getD 0 [] ≠ hushT) : wordsP ws = (zMsg, 10) := by unfold wordsP; rw [if_neg h0, if_neg h1, if_neg h2]
end Go.Proofs.YtgoefmkfjggnfaaGreatDoor
