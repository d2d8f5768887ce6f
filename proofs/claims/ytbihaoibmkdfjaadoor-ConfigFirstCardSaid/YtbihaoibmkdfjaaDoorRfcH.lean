/-
  The document's own: a route's line.
-/
import Derived.Test.YtbihaoibmkdfjaaDoorRfcG
import Derived.Test.YtbihaoibmkdfjaaDoorWirD
namespace Go.Proofs.YtbihaoibmkdfjaaDoor
open Go.RowKit Go.Shelf
set_option linter.unusedVariables false

theorem ifW_none : ∀ (l acc : List (List UInt8)), (∀ i, i < l.length → l.getD i [] ≠ ifT) → ifW acc l = none
  | [], acc, _ => rfl
  | v :: l, acc, h => by
    have h0 : v ≠ ifT := h 0 (by simp)
    rw [ifW, if_neg h0]
    exact ifW_none l _ fun i hi => h (i + 1) (by simpa using hi)
theorem ifW_at : ∀ (l acc : List (List UInt8)) (j : Nat), j < l.length → (∀ i, i < j → l.getD i [] ≠ ifT) → l.getD j [] = ifT → ifW acc l = some (acc ++ l.take j, l.drop (j + 1))
  | [], acc, j, hj, _, _ => absurd hj (by simp)
  | v :: l, acc, 0, hj, h, he => by
    have h0 : v = ifT := he
    rw [ifW, if_pos h0]
    simp
  | v :: l, acc, j + 1, hj, h, he => by
    have h0 : v ≠ ifT := h 0 (by omega)
    rw [ifW, if_neg h0, ifW_at l _ j (by simpa using hj) (fun i hi => h (i + 1) (by omega)) he]
    simp
theorem getD_drop1 (ws : List (List UInt8)) (i : Nat) : (ws.drop 1).getD i [] = ws.getD (i + 1) [] := by
  rw [List.getD_eq_getElem?_getD, List.getD_eq_getElem?_getD, List.getElem?_drop, Nat.add_comm]
theorem place_val {l : List R9} {v : List UInt8} (h : 0 ≤ placeN l (tx v)) : placeO l v = some (placeN l (tx v)) := by
  unfold placeN placeO at *
  cases e : l.findIdx? fun r => decide (r.nm = tx v) with
  | none => rw [e] at h; simp at h
  | some k => rfl
theorem place_no {l : List R9} {v : List UInt8} (h : ¬ 0 ≤ placeN l (tx v)) : placeO l v = none := by
  cases e : placeO l v with
  | none => rfl
  | some k => exact absurd ((place_some l v).1 (by rw [e]; rfl)) h
theorem rteE_none {c : CfgL} {names asks : List (List UInt8)} (h : allO (placeO c.1) names = none) : rteE c names asks = .error 4 := by unfold rteE; rw [h]
theorem rteE_char {c : CfgL} {names asks : List (List UInt8)} {ch : List Int} (h : allO (placeO c.1) names = some ch) (h2 : allO askedB asks = none) : rteE c names asks = .error 13 := by unfold rteE; rw [h]; simp only; rw [h2]
theorem rteE_end {c : CfgL} {names asks : List (List UInt8)} {ch : List Int} {ms : List M3} (h : allO (placeO c.1) names = some ch) (h2 : allO askedB asks = some ms) : rteE c names asks = if rteR c.1.length (ch, ms) = true then .ok (c.1, c.2.1 ++ [(ch, ms)], c.2.2) else .error 3 := by unfold rteE; rw [h]; simp only; rw [h2]
theorem names_at (ws : List (List UInt8)) (k j : Nat) (hj : j + 1 < k) (hk : k ≤ ws.length) : ((ws.take k).drop 1).getD j [] = ws.getD (j + 1) [] := by
  rw [getD_drop1, List.getD_eq_getElem?_getD, List.getD_eq_getElem?_getD, List.getElem?_take_of_lt hj]
theorem own_weaken {w : World} {base B : Nat} {e : TypeId} {size : Nat} {v : Value} {n : Nat} {xs : List Value} (h : w.ownsRow B e size v n xs) (hB : base ≤ B) : w.ownsRow base e size v n xs := by
  refine ⟨h.1, ?_⟩
  rcases h.2 with h2 | ⟨g, cap, cur, h3, h4, h5⟩
  · exact .inl h2
  · exact .inr ⟨g, cap, cur, h3, by omega, h5⟩
theorem Own2.setT {w : World} {base : Nat} {v : Value} {l : List T2} {qs : List (Value × Value)} (h : Own2 w base v l qs) {A : Nat} {cs : Array Value} (hV : Vals w A 25 cs) (i : Nat) (u : Value) : Own2 (w.setCell ⟨A, i, none⟩ u) base v l qs :=
  ⟨own_setT h.own hV (by decide) i u, h.len, fun j hj => ⟨own_setT (h.part j hj).1 hV (by decide) i u, own_setT (h.part j hj).2 hV (by decide) i u⟩⟩
theorem Own2.four {w : World} {base : Nat} {v : Value} {l : List T2} {qs : List (Value × Value)} (h : Own2 w base v l qs) {A : Nat} {x0 x1 x2 x3 : Value} (hV : Vals w A 25 #[x0, x1, x2, x3]) (y0 y1 y2 y3 : Value) : Own2 ((((w.setCell ⟨A, 0, none⟩ y0).setCell ⟨A, 1, none⟩ y1).setCell ⟨A, 2, none⟩ y2).setCell ⟨A, 3, none⟩ y3) base v l qs :=
  ⟨own_four h.own hV (by decide) y0 y1 y2 y3, h.len, fun j hj => ⟨own_four (h.part j hj).1 hV (by decide) y0 y1 y2 y3, own_four (h.part j hj).2 hV (by decide) y0 y1 y2 y3⟩⟩
theorem shortM_of {l : List (List UInt8)} {ms : List M3} (h : allO askedB l = some ms) : ShortM ms := by
  intro k hk
  have hm := (allO_some (P := fun m => matB m = true) (fun a b h => askedB_some h) l ms h).1 (ms.getD k zM) (by rw [getD_M ms k hk]; exact List.getElem_mem _)
  obtain ⟨_, h1, h2⟩ := mat_parts hm
  have e1 := name_size h1
  have e2 := value_size h2
  rw [Array.length_toList] at e1 e2
  have f1 : (ms.getD k zM).2.1.size = (ms.getD k zM).2.1.data.size := rfl
  have f2 : (ms.getD k zM).2.2.size = (ms.getD k zM).2.2.data.size := rfl
  omega
theorem wrap_succ (k : Nat) (h : k ≤ 1000000) : wrap64 ((k : Int) + 1) = ((k + 1 : Nat) : Int) := by unfold wrap64; omega
/-- what is told of a route's line -/
def AddTOut (w w' : World) (base : Nat) (e : Ending) (c : CfgL) (va vb : Value) (rep beat : Int) (ws : List (List UInt8)) : Prop := ∃ (vb' : Value) (er : Int), e = .returned (.tuple #[.agg (cfgV va vb' rep beat), .int .i64 er]) ∧
  ((er = 0 ∧ ∃ t qs', addT c ws = .ok (c.1, c.2.1 ++ [t], c.2.2) ∧ Own2 w' base vb' (c.2.1 ++ [t]) qs') ∨ (er ≠ 0 ∧ addT c ws = .error er ∧ vb' = vb))
theorem addT_full {c : CfgL} {ws : List (List UInt8)} (h : c.2.1.length = 4) : addT c ws = .error 2 := by unfold addT; rw [if_pos h]
theorem addT_lack {c : CfgL} {ws : List (List UInt8)} (h : c.2.1.length ≠ 4) (hA : ∀ i, 1 ≤ i → i < ws.length → ws.getD i [] ≠ ifT) : addT c ws = .error 12 := by
  unfold addT
  rw [if_neg h, ifW_none _ _ fun i hi => by rw [getD_drop1]; exact hA (i + 1) (by omega) (by rw [List.length_drop] at hi; omega)]
theorem addT_at {c : CfgL} {ws : List (List UInt8)} (h : c.2.1.length ≠ 4) (k : Nat) (h1 : 1 ≤ k) (hk : k < ws.length) (hA : ∀ i, 1 ≤ i → i < k → ws.getD i [] ≠ ifT) (he : ws.getD k [] = ifT) : addT c ws = rteE c ((ws.take k).drop 1) (ws.drop (k + 1)) := by
  unfold addT
  rw [if_neg h, ifW_at (ws.drop 1) [] (k - 1) (by rw [List.length_drop]; omega) (fun i hi => by rw [getD_drop1]; exact hA (i + 1) (by omega) (by omega)) (by rw [getD_drop1, show k - 1 + 1 = k by omega]; exact he)]
  simp only [List.nil_append]
  rw [List.drop_drop, show 1 + (k - 1 + 1) = k + 1 by omega, List.drop_take]
end Go.Proofs.YtbihaoibmkdfjaaDoor
