/-
  What the law asks of a duty that is taken, and done: plain.
-/
import Derived.Test.YtaiacohnhhicpaaDutN
namespace Go.Proofs.Ytaiacohnhhicpaa
open Go.RowKit
set_option linter.unusedVariables false

theorem ends_first {c : CfgL} {l : List L2} {now : Int} (h : (newF c l now).2 = 0) : doneF c ⟨l, rotF c l, 0, 0, now, 1⟩ now = (zD, true, 0) := by
  rw [doneF_ok (new_with h) (newF_ok h).2.2.1 (by show (1 : Int) ≠ 3; decide)]
  rfl
theorem ends_round {c : CfgL} {d : D6} (hd : dutyR c d = true) (h3 : d.st ≠ 3) (draw : Int) :
    sentF c d d.du true draw = (⟨d.ls, d.rt, 0, 0, Bo.addT d.du c.2.2.1, 2⟩, false, 0) ∧ dutyR c ⟨d.ls, d.rt, 0, 0, Bo.addT d.du c.2.2.1, 2⟩ = true ∧ 0 ≤ d.du ∧ d.du ≤ 1099511627776 ∧ 1 ≤ c.2.2.1 ∧ c.2.2.1 ≤ 1073741824 := by
  obtain ⟨hc, hw⟩ := (dutyR_iff c d).1 hd
  have ht := ((withB_iff c d).1 hw).2.2.2.2.1
  obtain ⟨t0, t1⟩ := (time_iff _).1 ht
  obtain ⟨r1, r2⟩ := often_of hc
  rw [sentF_ok hd ht (Int.le_refl _), if_pos rfl]
  unfold takenD
  rw [if_neg h3]
  exact ⟨rfl, (dutyR_iff _ _).2 ⟨hc, with_turn hc hw (addT_time t0 (by omega)) (by decide) (by decide)⟩, t0, t1, r1, r2⟩
theorem ends_done {c : CfgL} {d : D6} (hd : dutyR c d = true) (h2 : d.st = 2) {now : Int} (ht : timeB now = true) : doneF c d now = (⟨d.ls, d.rt, 0, 0, now, 3⟩, false, 0) ∧ dutyR c ⟨d.ls, d.rt, 0, 0, now, 3⟩ = true := by
  obtain ⟨hc, hw⟩ := (dutyR_iff c d).1 hd
  rw [doneF_ok hd ht (by omega)]
  unfold overD
  rw [if_neg (by omega)]
  exact ⟨rfl, (dutyR_iff _ _).2 ⟨hc, with_turn hc hw ht (by decide) (by decide)⟩⟩
theorem ends_last {c : CfgL} {o : D6} (ho : dutyR c o = true) (h3 : o.st = 3) {now : Int} (ht : timeB now = true) (hl : o.du ≤ now) (draw : Int) :
    doneF c o now = (zD, false, 6) ∧ sentF c o now false draw = (againD c o now draw, false, 0) ∧ (againD c o now draw).st = 3 ∧ (againD c o now draw).ls = o.ls ∧ sentF c (againD c o now draw) (againD c o now draw).du true draw = (zD, true, 0) := by
  obtain ⟨hc, hw⟩ := (dutyR_iff c o).1 ho
  have hw2 := with_again hc hw ht draw
  have hp : dutyR c (againD c o now draw) = true := (dutyR_iff _ _).2 ⟨hc, hw2⟩
  obtain ⟨g1, _, g3, _⟩ := again_ls c o now draw
  refine ⟨doneF_state ho ht h3, by rw [sentF_ok ho ht hl]; rfl, g3.trans h3, g1, ?_⟩
  rw [sentF_ok hp ((withB_iff c _).1 hw2).2.2.2.2.1 (Int.le_refl _), if_pos rfl]
  unfold takenD
  rw [if_pos (g3.trans h3)]
theorem min_addT {t d : Int} : min (t + d) 1099511627776 = Bo.addT t d := by
  unfold Bo.addT
  split <;> omega
end Go.Proofs.Ytaiacohnhhicpaa
