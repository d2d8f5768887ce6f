/-
  A region that draws its order: its first operations are quiet in a class of worlds, the rest come up one behind the other: one walk serves all orders.
-/
import Derived.Test.YtopjiokbmpghjaaVals
import Derived.Deep.Quiet
import Derived.Deep.QuietTactic
import Derived.BigQuiet
import Derived.StillTail
namespace Go.Proofs.Ytopjiokbmpghjaa
open Go Go.RowKit
set_option linter.unusedVariables false

section
variable {P : Program} {ops : Array Oper} {md : Region.Mode} {C : World → Prop} {n : Nat} {T : Array Bool → Act → Prop}
/-- so many more come up, each of the first n and quiet in C; then T -/
def Hq (P : Program) (md : Region.Mode) (ops : Array Oper) (C : World → Prop) (n : Nat) (T : Array Bool → Act → Prop) : Nat → Array Bool → Act → Prop
  | 0, ls, a => T ls a
  | k + 1, ls, a => Region.ready md ops ls ≠ [] ∧ ∀ i ∈ Region.ready md ops ls, i < n ∧ qOp P ops C i (Hq P md ops C n T k (ls.setIfInBounds i true)) a
theorem Hq.any {g : Nat} {Q : Exit → Act → World → Prop} (hT : ∀ ls a w, C w → T ls a → wpAny P md ops Q g ls a w) : ∀ (k : Nat) (ls : Array Bool) (a : Act) (w : World), C w → Hq P md ops C n T k ls a → wpAny P md ops Q (k + g) ls a w := by
  intro k
  induction k with
  | zero => intro ls a w hw h; rw [Nat.zero_add]; exact hT ls a w hw h
  | succ k ih =>
    intro ls a w hw h
    rw [Nat.add_right_comm]
    exact ⟨fun e => (h.1 e).elim, fun i hi => wpOp_of_qOp hw (fun a' w' hw' q => ih _ a' w' hw' q) (h.2 i hi).2⟩
theorem Hq.first {i : Nat} {o : Oper} {v : Value} (hi : ops[i]? = some o) (hsel : Region.noSelect ops = true) (hs : Region.sinkB md ops n = true) (hc : Region.chainB md ops n = true) (hn : n < ops.size) (hin : i < n)
    (hT : ∀ ls a, T ls a → ∀ j ∈ Region.ready md ops ls, n ≤ j) : ∀ (k : Nat) (ls : Array Bool) (a : Act), HeadInv md ops n ls →
      (∀ j oj, ops[j]? = some oj → j ≠ i → ls.getD j true = false → (∀ e ∈ oj.after, Region.binds md e = true → e.on ≠ i) → o.apart ops oj = true) →
      i ∈ Region.ready md ops ls → YieldsIn P ops C o v a → Hq P md ops C n T k (ls.setIfInBounds i true) (a.put o.dst v) → Hq P md ops C n T (k + 1) ls a := by
  have hno := Region.noSelect_spec hsel
  -- the head's own operations alone may come up, as long as one of them has not
  have hhead : ∀ ls : Array Bool, HeadInv md ops n ls → i ∈ Region.ready md ops ls → ∀ j ∈ Region.ready md ops ls, j < n := by
    intro ls inv hr j hj
    by_cases hjn : j < n
    · exact hjn
    · exact (tail_waits hs hc hn inv _ i rfl hin (mem_ready.1 hr).1 j (by omega) hj).elim
  intro k
  induction k with
  | zero =>
    intro ls a inv _ hr hy q
    refine ⟨List.ne_nil_of_mem hr, fun j hj => ⟨hhead ls inv hr j hj, ?_⟩⟩
    by_cases e : j = i
    · rw [e]; exact hy.qOp hi q
    · have h1 := hT _ _ q j (ready_mono hj e)
      have h2 := hhead ls inv hr j hj
      omega
  | succ k ih =>
    intro ls a inv hfree hr hy q
    refine ⟨List.ne_nil_of_mem hr, fun j hj => ⟨hhead ls inv hr j hj, ?_⟩⟩
    by_cases e : j = i
    · rw [e]; exact hy.qOp hi q
    · obtain ⟨hun, oj, hoj, hall⟩ := mem_ready.1 hj
      have hnot : ∀ x ∈ oj.after, Region.binds md x = true → x.on ≠ i := fun x hx hb he => by
        have := hall x hx hb
        rw [he, getD_both (mem_ready.1 hr).1] at this
        cases this
      have h1 := qOp_put hoj (hfree j oj hoj e hun hnot) (fun cs b => hno i o cs b hi) (fun cs b => hno j oj cs b hoj) hy (q.2 j (ready_mono hj e)).2
      refine qOp_mono (fun a' h2 => ?_) h1
      refine ih (ls.setIfInBounds j true) a' (inv.set hj (hhead ls inv hr j hj)) (fun m om hm hmi hmu hmn => ?_) (ready_mono hr (Ne.symm e)) h2.1 ?_
      · refine hfree m om hm hmi ?_ hmn
        by_cases hjm : j = m
        · subst hjm; exact hun
        · rwa [getD_set_ne true hjm] at hmu
      · rw [Array.setIfInBounds_comm _ _ e]
        exact h2.2
theorem Hq.lex {g : Nat} {L : Act → Prop} (hsel : Region.noSelect ops = true) (hs : Region.sinkB md ops n = true) (hc : Region.chainB md ops n = true) (hn : n < ops.size) :
    ∀ (l : List Oper) (k : Nat) (ls : Array Bool) (a : Act), (∀ j, j < l.length → l[j]? = ops[k + j]?) → k + l.length = n → HeadInv md ops n ls →
      Region.lexHead md ops g l.length k ls = true → wpQuiet P ops C L l a → Hq P md ops C n (fun ls' a' => Region.seqB md ops g n ls' = true ∧ L a') l.length ls a := by
  intro l
  induction l with
  | nil =>
    intro k ls a _ hk _ hB q
    obtain rfl : k = n := by simpa using hk
    exact ⟨by simpa [Region.lexHead] using hB, q⟩
  | cons o l ih =>
    intro k ls a hl hk inv hB q
    have h0 : ops[k]? = some o := by simpa using (hl 0 (by simp)).symm
    rw [List.length_cons] at hk
    simp only [List.length_cons, Region.lexHead, Bool.and_eq_true] at hB
    obtain ⟨⟨hr, hf⟩, hB2⟩ := hB
    have hr2 : k ∈ Region.ready md ops ls := by simpa using hr
    have hq : qOp P ops C k (wpQuiet P ops C L l) a := by unfold qOp; simp only [h0]; exact q
    obtain ⟨v, hy, hK⟩ := yieldsIn_of_qOp h0 hq
    refine Hq.first h0 hsel hs hc hn (by omega) (fun ls' a' hT => seqB_ready hT.1) l.length ls a inv (Region.free_spec h0 hf) hr2 hy ?_
    refine ih (k + 1) _ _ (fun j hj => ?_) (by omega) (inv.set hr2 (by omega)) hB2 hK
    have := hl (j + 1) (by simp; omega)
    simpa [Nat.add_assoc, Nat.add_comm 1 j] using this
end
theorem wp_region_quiet_tail {P : Program} {C : World → Prop} {id : Nat} {Q : Exit → Act → World → Prop} {a : Act} {w : World} {l : List Oper} (n : Nat) (hm : P.follows .mixedOrders = true) (hB : Region.lexTailB .any l.toArray n = true) (hC : C w.drew)
    (h : wpQuiet P l.toArray C (fun a' => ∀ w', C w' → wpList P l.toArray Q (l.drop n) a' w') (l.take n) a) : (Code.region id l.toArray true).wp P Q a w := by
  simp only [Region.lexTailB, Bool.and_eq_true, decide_eq_true_eq] at hB
  obtain ⟨⟨⟨⟨hsel, hn⟩, hs⟩, hc⟩, hlex⟩ := hB
  have hnl : n < l.length := by simpa using hn
  have htl : (l.take n).length = n := by rw [List.length_take]; omega
  have inv0 : HeadInv .any l.toArray n (Array.replicate l.toArray.size false) :=
    ⟨by simp, fun j oj _ hl => (by rw [getD_replicate_false] at hl; cases hl), fun t _ ht => getD_in (by simpa using ht) (getD_replicate_false _ _)⟩
  have hh := Hq.lex (md := .any) (g := l.toArray.size - n) hsel hs hc hn (l.take n) 0 _ a (fun j hj => by rw [htl] at hj; simp [hj]) (by rw [htl, Nat.zero_add]) inv0 (by rw [htl]; exact hlex) h
  have hd : (l.drop n).length = l.toArray.size - n := by simp
  have := hh.any (g := l.toArray.size - n) (Q := Q) (fun ls a' w' hw hT => by
    have := wpAny_of_seq (md := .any) (Q' := Q) (l.drop n) n ls a' w' (fun j => by simp [List.getElem?_drop]) (by rw [hd]; exact hT.1) (hT.2 w' hw)
    rwa [hd] at this) _ _ _ _ hC
  have hz : l.toArray.size = l.length := by simp
  rw [htl, Nat.add_sub_cancel' (by omega)] at this
  exact wp_region_any hm this
end Go.Proofs.Ytopjiokbmpghjaa
