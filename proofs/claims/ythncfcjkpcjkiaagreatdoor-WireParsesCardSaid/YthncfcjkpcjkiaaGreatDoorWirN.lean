/-
  Messages: which may be, their texts, and what a text says; printed and parsed.
-/
import Derived.Test.YthncfcjkpcjkiaaGreatDoorWirM
namespace Go.Proofs.YthncfcjkpcjkiaaGreatDoor
open Go.RowKit
set_option linter.unusedVariables false

/-- a message: its kind, its labels, and its hush's times and matchers -/
abbrev MsgL := Int × List L2 × Int × Int × List M3
abbrev zMsg : MsgL := (0, [], 0, 0, [])
def fireT : List UInt8 := [102, 105, 114, 101]
def doneT : List UInt8 := [100, 111, 110, 101]
def hushT : List UInt8 := [104, 117, 115, 104]
def timeB (n : Int) : Bool := decide (0 ≤ n) && decide (n ≤ 1099511627776)
def hushR (f t : Int) (ms : List M3) : Bool := timeB f && timeB t && decide (f < t) && decide (1 ≤ ms.length) && (decide (ms.length ≤ 4) && !ms.any fun m => !matB m)
def msgR (m : MsgL) : Bool := if m.1 = 2 then (decide (m.2.1.length = 0) && hushR m.2.2.1 m.2.2.2.1 m.2.2.2.2) else ((decide (m.1 = 0) || decide (m.1 = 1)) && rightB m.2.1 && decide (m.2.2.1 = 0) && decide (m.2.2.2.1 = 0) && decide (m.2.2.2.2.length = 0))

/-- all that are one, or none -/
def allO {α β : Type} (f : α → Option β) : List α → Option (List β)
  | [] => some []
  | a :: l => match f a with
    | none => none
    | some b => (allO f l).map (b :: ·)
theorem allO_snoc {α β : Type} (f : α → Option β) (l : List α) (a : α) : allO f (l ++ [a]) = (allO f l).bind fun r => (f a).map fun b => r ++ [b] := by
  induction l with
  | nil =>
    show allO f [a] = _
    unfold allO
    cases f a <;> simp [allO]
  | cons x l ih =>
    rw [List.cons_append, allO, allO]
    cases f x with
    | none => rfl
    | some b =>
      simp only
      rw [ih]
      cases allO f l with
      | none => rfl
      | some r => cases f a <;> rfl
theorem allO_none {α β : Type} {f : α → Option β} {l : List α} {a : α} (ha : a ∈ l) (h : f a = none) : allO f l = none := by
  induction l with
  | nil => cases ha
  | cons x l ih =>
    rw [allO]
    rcases List.mem_cons.1 ha with rfl | ha
    · rw [h]
    · cases f x with
      | none => rfl
      | some b => simp only; rw [ih ha]; rfl
theorem allO_map {α β γ : Type} (f : α → Option β) (g : β → α) (l : List β) (h : ∀ b ∈ l, f (g b) = some b) : allO f (l.map g) = some l := by
  induction l with
  | nil => rfl
  | cons b l ih => rw [List.map_cons, allO, h b (by simp)]; simp only; rw [ih fun c hc => h c (by simp [hc])]; rfl
theorem allO_some {α β : Type} {f : α → Option β} {P : β → Prop} (hf : ∀ a b, f a = some b → P b) : ∀ (l : List α) (r : List β), allO f l = some r → (∀ b ∈ r, P b) ∧ r.length = l.length
  | [], r, h => by cases h; exact ⟨fun b hb => (by cases hb), rfl⟩
  | a :: l, r, h => by
    rw [allO] at h
    cases ha : f a with
    | none => rw [ha] at h; cases h
    | some b =>
      rw [ha] at h
      simp only at h
      obtain ⟨q, hq, rfl⟩ := Option.map_eq_some_iff.1 h
      obtain ⟨h1, h2⟩ := allO_some hf l q hq
      refine ⟨fun c hc => ?_, by simp [h2]⟩
      rcases List.mem_cons.1 hc with rfl | hc
      · exact hf a c ha
      · exact h1 c hc

def alertB (k : Int) (ws : List (List UInt8)) : MsgL × Int := match allO labelB ws with
  | none => (zMsg, 13)
  | some l => if (sortF l).2 = 0 then ((k, (sortF l).1, 0, 0, []), 0) else (zMsg, (sortF l).2)
def hushE (f t : Nat) (ms : List M3) : MsgL × Int := if 4 < ms.length then (zMsg, 2) else if f < t then ((2, [], (f : Int), (t : Int), ms), 0) else (zMsg, 3)
def hushB (ws : List (List UInt8)) : MsgL × Int := if ws.length < 3 then (zMsg, 12) else match numB (ws.getD 0 []), numB (ws.getD 1 []) with
  | some f, some t => match allO askedB (ws.drop 2) with
    | none => (zMsg, 13)
    | some ms => hushE f t ms
  | _, _ => (zMsg, 13)
def wordsB (ws : List (List UInt8)) : MsgL × Int := if ws.getD 0 [] = fireT then alertB 0 (ws.drop 1) else if ws.getD 0 [] = doneT then alertB 1 (ws.drop 1) else if ws.getD 0 [] = hushT then hushB (ws.drop 1) else (zMsg, 10)
def parseB (l : List UInt8) : MsgL × Int := if 200 < l.length then (zMsg, 2) else wordsB (splitW [] l)
def printW (m : MsgL) : List (List UInt8) := if m.1 = 2 then hushT :: digsB m.2.2.1.toNat :: digsB m.2.2.2.1.toNat :: m.2.2.2.2.map askB else (if m.1 = 1 then doneT else fireT) :: m.2.1.map labW
def printB (m : MsgL) : List UInt8 := joinB (printW m)

theorem right_parts {l : List L2} (h : rightB l = true) : l.length ≤ 3 ∧ ∀ x ∈ l, nameB x.1 = true ∧ valueB x.2 = true := by
  unfold rightB posB at h
  simp only [Bool.and_eq_true, decide_eq_true_eq, Bool.not_eq_true'] at h
  refine ⟨h.1.1.2, fun x hx => ?_⟩
  have hn : noneB x = false := by
    cases hb : noneB x with
    | false => rfl
    | true => have := h.1.2; rw [List.any_eq_true.2 ⟨x, hx, hb⟩] at this; cases this
  unfold noneB at hn
  simpa using hn
theorem flat_length (c : Nat) : ∀ ws : List (List UInt8), (∀ w ∈ ws, w.length ≤ c) → (ws.flatMap fun v => 32 :: v).length ≤ (c + 1) * ws.length
  | [], _ => by simp
  | w :: ws, h => by
    have h1 := h w (by simp)
    have h2 := flat_length c ws fun v hv => h v (by simp [hv])
    rw [List.flatMap_cons, List.length_append, List.length_cons, List.length_cons, Nat.mul_succ]
    omega
theorem words_alert (k : Int) (l : List L2) (hk : k = 0 ∨ k = 1) (hl : ∀ x ∈ l, nameB x.1 = true ∧ valueB x.2 = true) :
    wordsB ((if k = 1 then doneT else fireT) :: l.map labW) = alertB k (l.map labW) := by
  unfold wordsB
  rcases hk with rfl | rfl
  · rfl
  · show (if doneT = fireT then _ else _) = _
    rw [if_neg (by decide)]
    rfl
theorem alert_words (k : Int) (l : List L2) (hl : ∀ x ∈ l, nameB x.1 = true ∧ valueB x.2 = true) :
    alertB k (l.map labW) = if (sortF l).2 = 0 then ((k, (sortF l).1, 0, 0, []), 0) else (zMsg, (sortF l).2) := by
  unfold alertB
  rw [allO_map (γ := Unit) labelB labW l fun x hx => labelB_lab (hl x hx).1 (hl x hx).2]
theorem words_plain (k : Int) (l : List L2) (hl : ∀ x ∈ l, nameB x.1 = true ∧ valueB x.2 = true) : ∀ v ∈ (if k = 1 then doneT else fireT) :: l.map labW, ∀ c ∈ v, c ≠ 32 := by
  intro v hv
  rcases List.mem_cons.1 hv with rfl | hv
  · split <;> decide
  · obtain ⟨x, hx, rfl⟩ := List.mem_map.1 hv
    exact (lab_plain (hl x hx).1 (hl x hx).2).1
/-- the text of some labels, in whatever order, says their message -/
theorem parse_labels (k : Int) (l : List L2) (hk : k = 0 ∨ k = 1) (h3 : l.length ≤ 3) (hl : ∀ x ∈ l, nameB x.1 = true ∧ valueB x.2 = true) :
    parseB (joinB ((if k = 1 then doneT else fireT) :: l.map labW)) = if (sortF l).2 = 0 then ((k, (sortF l).1, 0, 0, []), 0) else (zMsg, (sortF l).2) := by
  unfold parseB
  have hz : (joinB ((if k = 1 then doneT else fireT) :: l.map labW)).length ≤ 200 := by
    rw [joinB, List.length_append]
    have h1 := flat_length 17 (l.map labW) fun w hw => by
      obtain ⟨x, hx, rfl⟩ := List.mem_map.1 hw
      exact (lab_plain (hl x hx).1 (hl x hx).2).2
    rw [List.length_map] at h1
    have h2 : (if k = 1 then doneT else fireT).length = 4 := by split <;> rfl
    omega
  rw [if_neg (by omega), split_join _ _ (words_plain k l hl), words_alert k l hk hl, alert_words k l hl]
theorem parse_print {m : MsgL} (h : msgR m = true) : parseB (printB m) = (m, 0) := by
  obtain ⟨k, l, f, t, ms⟩ := m
  unfold msgR at h
  simp only at h
  split at h
  · rename_i hk
    subst hk
    unfold hushR timeB at h
    simp only [Bool.and_eq_true, decide_eq_true_eq, Bool.not_eq_true'] at h
    obtain ⟨hl, ⟨⟨⟨⟨hf0, hf1⟩, ht0, ht1⟩, hft⟩, hm1⟩, hm4, hany⟩ := h
    have hl : l = [] := List.length_eq_zero_iff.1 hl
    subst hl
    have hmat : ∀ m ∈ ms, matB m = true := fun m hm => by
      cases hb : matB m with
      | true => rfl
      | false => rw [List.any_eq_true.2 ⟨m, hm, by rw [hb]; rfl⟩] at hany; cases hany
    obtain ⟨F, rfl⟩ : ∃ F : Nat, f = (F : Int) := ⟨f.toNat, by omega⟩
    obtain ⟨T, rfl⟩ : ∃ T : Nat, t = (T : Int) := ⟨t.toNat, by omega⟩
    have hF : F ≤ topT := by unfold topT; omega
    have hTt : T ≤ topT := by unfold topT; omega
    have ep : printB (2, [], (F : Int), (T : Int), ms) = joinB (hushT :: digsB F :: digsB T :: ms.map askB) := by
      unfold printB printW
      rw [if_pos rfl]
      simp
    rw [ep]
    have hpl : ∀ v ∈ hushT :: digsB F :: digsB T :: ms.map askB, ∀ c ∈ v, c ≠ 32 := by
      intro v hv
      rcases List.mem_cons.1 hv with rfl | hv
      · decide
      rcases List.mem_cons.1 hv with rfl | hv
      · exact fun c hc => isD_blank (digsB_all F c hc)
      rcases List.mem_cons.1 hv with rfl | hv
      · exact fun c hc => isD_blank (digsB_all T c hc)
      obtain ⟨x, hx, rfl⟩ := List.mem_map.1 hv
      exact (ask_plain (hmat x hx)).1
    have hz : (joinB (hushT :: digsB F :: digsB T :: ms.map askB)).length ≤ 200 := by
      have z1 := digsB_length 12 F (by unfold topT at hF; omega)
      have z2 := digsB_length 12 T (by unfold topT at hTt; omega)
      have h1 := flat_length 17 (ms.map askB) fun w hw => by
        obtain ⟨x, hx, rfl⟩ := List.mem_map.1 hw
        exact (ask_plain (hmat x hx)).2
      rw [List.length_map] at h1
      have h2 : hushT.length = 4 := rfl
      rw [joinB, List.length_append, List.flatMap_cons, List.flatMap_cons, List.length_append, List.length_append, List.length_cons, List.length_cons]
      omega
    unfold parseB
    rw [if_neg (by omega), split_join _ _ hpl]
    unfold wordsB
    rw [List.getD_cons_zero, if_neg (by decide), if_neg (by decide), if_pos rfl, List.drop_succ_cons, List.drop_zero]
    unfold hushB
    rw [if_neg (by simp; omega), List.getD_cons_zero, List.getD_cons_succ, List.getD_cons_zero, numB_digs F hF, numB_digs T hTt]
    simp only [List.drop_succ_cons, List.drop_zero]
    rw [allO_map (γ := Unit) askedB askB ms fun x hx => askedB_ask (hmat x hx)]
    simp only
    unfold hushE
    rw [if_neg (by omega), if_pos (by omega)]
  · rename_i hk
    simp only [Bool.and_eq_true, Bool.or_eq_true, decide_eq_true_eq] at h
    obtain ⟨⟨⟨⟨hk2, hr⟩, rfl⟩, rfl⟩, hm⟩ := h
    have hm : ms = [] := List.length_eq_zero_iff.1 hm
    subst hm
    obtain ⟨h3, hl⟩ := right_parts hr
    have ep : printB (k, l, 0, 0, []) = joinB ((if k = 1 then doneT else fireT) :: l.map labW) := by
      unfold printB printW
      rw [if_neg hk]
    rw [ep, parse_labels k l hk2 h3 hl, sortF_right hr]
    rfl
theorem alert_right {k : Int} {ws : List (List UInt8)} {m : MsgL} (hk : k = 0 ∨ k = 1) (h : alertB k ws = (m, 0)) : msgR m = true := by
  unfold alertB at h
  split at h
  · cases h
  · rename_i l _
    split at h
    · rename_i h0
      cases h
      obtain ⟨e, hr, _⟩ := sortF_ok h0
      unfold msgR
      rw [e]
      rcases hk with rfl | rfl
      · simp [hr]
      · simp [hr]
    · rename_i h0
      exact absurd (Prod.mk.inj h).2 h0
theorem hush_right {ws : List (List UInt8)} {m : MsgL} (h : hushB ws = (m, 0)) : msgR m = true := by
  unfold hushB at h
  split at h
  · cases h
  rename_i h3
  split at h
  · rename_i f t hf ht
    split at h
    · cases h
    · rename_i ms hms
      unfold hushE at h
      split at h
      · cases h
      · rename_i h4
        split at h
        · rename_i hft
          cases h
          have zf := (numB_some hf).2
          have zt := (numB_some ht).2
          unfold topT at zf zt
          obtain ⟨hmat, hlen⟩ := allO_some (P := fun m => matB m = true) (fun a b e => askedB_some e) _ _ hms
          rw [List.length_drop] at hlen
          unfold msgR
          rw [if_pos rfl]
          unfold hushR timeB
          have hany : (ms.any fun m => !matB m) = false := by
            rw [List.any_eq_false]
            intro x hx
            rw [hmat x hx]
            simp
          simp only [hany]
          simp
          omega
        · cases h
  · cases h
theorem parse_right {l : List UInt8} {m : MsgL} (h : parseB l = (m, 0)) : msgR m = true := by
  unfold parseB at h
  split at h
  · cases h
  unfold wordsB at h
  split at h
  · exact alert_right (.inl rfl) h
  split at h
  · exact alert_right (.inr rfl) h
  split at h
  · exact hush_right h
  · cases h
theorem parse_not {l : List UInt8} (h : (parseB l).2 ≠ 0) : (parseB l).1 = zMsg := by
  have ha : ∀ k ws, (alertB k ws).2 ≠ 0 → (alertB k ws).1 = zMsg := by
    intro k ws h
    unfold alertB at h ⊢
    split
    · rfl
    · rename_i l e
      rw [e] at h
      simp only at h
      split
      · rename_i h0; rw [if_pos h0] at h; exact absurd rfl h
      · rfl
  have hh : ∀ ws, (hushB ws).2 ≠ 0 → (hushB ws).1 = zMsg := by
    intro ws h
    unfold hushB at h ⊢
    split
    · rfl
    rename_i h3
    rw [if_neg h3] at h
    split
    · rename_i f t hf ht
      rw [hf, ht] at h
      simp only at h
      split
      · rfl
      · rename_i ms hms
        rw [hms] at h
        simp only at h
        unfold hushE at h ⊢
        split
        · rfl
        · rename_i h4
          rw [if_neg h4] at h
          split
          · rename_i h5; rw [if_pos h5] at h; exact absurd rfl h
          · rfl
    · rfl
  unfold parseB at h ⊢
  split
  · rfl
  rename_i hz
  rw [if_neg hz] at h
  unfold wordsB at h ⊢
  split
  · rename_i e; rw [if_pos e] at h; exact ha _ _ h
  rename_i e1
  rw [if_neg e1] at h
  split
  · rename_i e; rw [if_pos e] at h; exact ha _ _ h
  rename_i e2
  rw [if_neg e2] at h
  split
  · rename_i e; rw [if_pos e] at h; exact hh _ h
  · rfl
end Go.Proofs.YthncfcjkpcjkiaaGreatDoor
