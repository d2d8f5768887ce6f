/-
  The library's Join, where it lies in this program: words parted by blanks.
-/
import Derived.Test.YtbihaoibmkdfjaaGreatDoorLibX
import Derived.Test.YtbihaoibmkdfjaaGreatDoorLayJ
import Derived.Shelf.Strings.OnBuilder
namespace Go.Proofs.YtbihaoibmkdfjaaGreatDoor
open Go.RowKit Go.Shelf
set_option linter.unusedVariables false

theorem joinTail_blank (ws : List (List UInt8)) : Lib.joinTail [32] ws = ws.flatMap fun v => 32 :: v := by
  induction ws with
  | nil => rfl
  | cons v ws ih => rw [List.flatMap_cons, ← ih]; simp [Lib.joinTail]
theorem join_blank (v : List UInt8) (ws : List (List UInt8)) : Lib.join (v :: ws) [32] = joinB (v :: ws) := by
  rw [Lib.join_cons, joinB, joinTail_blank]
theorem join_any (oa : Option Addr) (n cap : Nat) (ws : List (List UInt8)) (w : World) (h : Ts w oa n cap (ws.map tx)) (h1 : 1 ≤ n) (hn : n ≤ 100000) (hl : (joinB ws).length ≤ 100000000) :
    Calls Tryz.prog 44 #[.slice oa n cap, .string ⟨#[32]⟩] w fun e w' => e = .returned (.string (tx (joinB ws))) ∧ Below w.heap.size w w' := by
  have hlen := h.len
  rw [List.length_map] at hlen
  obtain ⟨v, vs, rfl⟩ : ∃ v vs, ws = v :: vs := by
    cases ws with
    | nil => simp at hlen; omega
    | cons v vs => exact ⟨v, vs, rfl⟩
  obtain ⟨g, o, rfl, c0⟩ := h.cell 0 (by omega)
  by_cases hn1 : n = 1
  · subst hn1
    have hvs : vs = [] := by
      cases vs with
      | nil => rfl
      | cons a b => simp at hlen
    subst hvs
    have hc := Any.strings_Join_one layJoin layExtra g o cap (tx v) ⟨#[32]⟩ w (by simpa using c0)
    change Calls Tryz.prog 44 _ _ _ at hc
    refine hc.mono ?_
    rintro e w' ⟨rfl, rfl⟩
    exact ⟨by simp [joinB], Below.refl _ _⟩
  · have hmap : ((v :: vs).map tx).map (fun s : ByteArray => s.data.toList) = v :: vs := by
      rw [List.map_map]
      conv => rhs; rw [← List.map_id (v :: vs)]
      apply List.map_congr_left
      intro x _
      exact tx_data x
    have hj : Lib.join (((v :: vs).map tx).map fun s : ByteArray => s.data.toList) (⟨#[32]⟩ : ByteArray).data.toList = joinB (v :: vs) := by
      rw [hmap]
      exact join_blank v vs
    have hc := Any.strings_Join_many layJoin layExtra g o cap ((v :: vs).map tx) ⟨#[32]⟩ w
      (fun j x hx => by
        have hj : j < n := by
          have := (List.getElem?_eq_some_iff.1 hx).1
          rw [List.length_map] at this
          omega
        obtain ⟨g', o', e, hc⟩ := h.cell j hj
        cases e
        rw [hc, List.getD_eq_getElem?_getD, hx]
        rfl)
      (World.block_lt_of_cell? w _ c0) (by rw [List.length_map]; omega) (by rw [List.length_map]; omega) (by rw [List.length_map]; have := h.room; omega) (by rw [hj]; omega)
    rw [hj, List.length_map, hlen] at hc
    change Calls Tryz.prog 44 _ _ _ at hc
    exact hc
end Go.Proofs.YtbihaoibmkdfjaaGreatDoor
