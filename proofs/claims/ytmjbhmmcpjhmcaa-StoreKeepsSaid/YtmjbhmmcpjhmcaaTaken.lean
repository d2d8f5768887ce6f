/-
  A region that draws its order and stores at its end into what it has loaded: what is loaded is taken first, under a condition on the world that need hold only ahead of the stores.
-/
import Derived.Test.YtmjbhmmcpjhmcaaTexts
import Derived.OrdersHeld
import Derived.RegionTactic
namespace Go.Proofs.Ytmjbhmmcpjhmcaa
open Go
set_option linter.unusedVariables false

section
variable {P : Program} {ops : Array Oper} {Q : Exit → Act → World → Prop} {S : World → Prop} {m : Nat}

/-- in any order, S being shown behind each operation ahead of number m -/
def wpT (P : Program) (ops : Array Oper) (Q : Exit → Act → World → Prop) (S : World → Prop) (m : Nat) : Nat → Array Bool → Act → World → Prop
  | 0, L, a, w => Region.ready .any ops L = [] ∧ Q .normal a w
  | n + 1, L, a, w => (Region.ready .any ops L = [] → Q .normal a w) ∧ ∀ j ∈ Region.ready .any ops L, wpOp P ops Q j (fun b v => (j < m → S v) ∧ wpT P ops Q S m n (L.setIfInBounds j true) b v) a w
theorem wpT_any : ∀ (n : Nat) (L : Array Bool) (a : Act) (w : World), wpT P ops Q S m n L a w → wpAny P .any ops Q n L a w := by
  intro n
  induction n with
  | zero => exact fun _ _ _ h => h
  | succ n ih => exact fun L a w h => ⟨h.1, fun j hj => wpOp_mono (fun b v k => ih _ b v k.2) (h.2 j hj)⟩
/-- who waits for number i, at once or by others -/
def heirs (ops : Array Oper) (i : Nat) : List Nat :=
  (List.range ops.size).foldl (fun D j => if ((ops[j]?).map fun p => p.after.any fun e => Region.binds .any e && (e.on == i || D.contains e.on)).getD false then j :: D else D) []
theorem wpT_first {i : Nat} {o : Oper} {v : Value} {D : List Nat} (ho : ops[i]? = some o) (hs : Region.noSelect ops = true) (hQ : ∀ c a w, Q (.panic c) (a.put o.dst v) w → Q (.panic c) a w)
    (hD : ∀ j p, ops[j]? = some p → j ∈ D → ∃ e ∈ p.after, Region.binds .any e = true ∧ (e.on = i ∨ e.on ∈ D)) :
    ∀ (n : Nat) (L : Array Bool) (a : Act) (w : World), (∀ j ∈ D, L.getD j false = false) → (∀ j p, ops[j]? = some p → j ≠ i → L.getD j true = false → j ∉ D → j < m ∧ o.apart ops p = true) →
      i ∈ Region.ready .any ops L → YieldsIf P ops S o v a → S w → wpT P ops Q S m n (L.setIfInBounds i true) (a.put o.dst v) w → wpT P ops Q S m (n + 1) L a w := by
  intro n
  induction n with
  | zero =>
    intro L a w _ _ hi hy hS H
    refine ⟨fun h => absurd (h ▸ hi) (by simp), fun j hj => ?_⟩
    by_cases e : j = i
    · rw [e]
      exact hy.wpOp ho hS ⟨fun _ => hS, H⟩
    · exact absurd (H.1 ▸ ready_mono hj e) (by simp)
  | succ n ih =>
    intro L a w hL hf hi hy hS H
    refine ⟨fun h => absurd (h ▸ hi) (by simp), fun j hj => ?_⟩
    by_cases e : j = i
    · rw [e]
      exact hy.wpOp ho hS ⟨fun _ => hS, H⟩
    · obtain ⟨hju, p, hp, hall⟩ := mem_ready.1 hj
      have hiu := (mem_ready.1 hi).1
      have hjD : j ∉ D := by
        intro hm
        obtain ⟨d, hd, hb, hon⟩ := hD j p hp hm
        have h1 := hall d hd hb
        rcases hon with hon | hon
        · rw [hon] at h1
          rcases Nat.lt_or_ge i L.size with hlt | hge
          · simp [hlt] at h1 hiu
            rw [hiu] at h1
            exact Bool.noConfusion h1
          · simp [Array.getElem?_eq_none hge] at h1
        · rw [hL _ hon] at h1
          exact Bool.noConfusion h1
      obtain ⟨hjm, hap⟩ := hf j p hp e hju hjD
      refine wpOp_mono (fun b v k => ⟨k.2.1, ?_⟩) (wpOp_putIf hp hap (fun cs b => Region.noSelect_spec hs i o cs b ho) (fun cs b => Region.noSelect_spec hs j p cs b hp) hQ hy (H.2 j (ready_mono hj e)))
      refine ih (L.setIfInBounds j true) b v (fun q hq => ?_) (fun q r hr hq hqu hqd => hf q r hr hq ?_ hqd) (ready_mono hi (Ne.symm e)) k.1 (k.2.1 hjm) ?_
      · rw [getD_set_ne false (i := j) (j := q) (fun h => hjD (by rw [h]; exact hq))]
        exact hL q hq
      · by_cases hjq : j = q
        · rw [← hjq]
          exact hju
        · rw [getD_set_ne true hjq] at hqu
          exact hqu
      · rw [Array.setIfInBounds_comm _ _ e]
        exact k.2.2
/-- who could come ahead of number i is apart from it, and lies ahead of number m -/
def freeT (ops : Array Oper) (L : Array Bool) (m i : Nat) : Bool :=
  match ops[i]? with
  | none => false
  | some o => ((heirs ops i).all fun j => !(L.getD j false) && ((ops[j]?).map fun p => p.after.any fun e => Region.binds .any e && (e.on == i || (heirs ops i).contains e.on)).getD true) &&
      (List.range ops.size).all fun j => j == i || L.getD j true || (heirs ops i).contains j || (Nat.blt j m && ((ops[j]?).map fun p => o.apart ops p).getD true)
/-- an operation that yields in each world that meets S is taken first -/
theorem wpT_take {i : Nat} {o : Oper} {v : Value} {n : Nat} {L : Array Bool} {a : Act} {w : World} (ho : ops[i]? = some o) (hs : Region.noSelect ops = true) (hf : freeT ops L m i = true) (hr : (Region.ready .any ops L).contains i = true)
    (hQ : ∀ c a w, Q (.panic c) (a.put o.dst v) w → Q (.panic c) a w) (hy : YieldsIf P ops S o v a) (hS : S w) (h : wpT P ops Q S m n (L.setIfInBounds i true) (a.put o.dst v) w) : wpT P ops Q S m (n + 1) L a w := by
  unfold freeT at hf
  rw [ho] at hf
  simp only [Bool.and_eq_true, List.all_eq_true] at hf
  obtain ⟨h1, h2⟩ := hf
  refine wpT_first (D := heirs ops i) ho hs hQ (fun j p hp hj => ?_) n L a w (fun j hj => by simpa using (h1 j hj).1) (fun j p hp hne hju hj => ?_) (by simpa using hr) hy hS h
  · have h3 := (h1 j hj).2
    rw [hp] at h3
    obtain ⟨e, he, hb⟩ := Array.any_eq_true'.1 h3
    simp only [Bool.and_eq_true, Bool.or_eq_true, beq_iff_eq, List.contains_iff_mem] at hb
    exact ⟨e, he, hb.1, hb.2⟩
  · have h3 := h2 j (List.mem_range.2 (Array.getElem?_eq_some_iff.1 hp).1)
    rw [hp, hju] at h3
    have h4 : (heirs ops i).contains j = false := by
      rw [Bool.eq_false_iff]
      intro h
      exact hj (List.contains_iff_mem.1 h)
    rw [beq_eq_false_iff_ne.2 hne, h4] at h3
    simp only [Bool.false_or, Bool.and_eq_true] at h3
    exact ⟨Nat.blt_eq.mp h3.1, h3.2⟩
/-- all that is left lies behind number m: nothing more is to be shown -/
theorem wpT_rest : ∀ (n : Nat) (L : Array Bool) (a : Act) (w : World), (∀ j, L.getD j true = false → m ≤ j) → wpAny P .any ops Q n L a w → wpT P ops Q S m n L a w := by
  intro n
  induction n with
  | zero => exact fun _ _ _ _ h => h
  | succ n ih =>
    intro L a w hL h
    refine ⟨h.1, fun j hj => wpOp_mono (fun b v k => ⟨fun hm => ?_, ih _ b v (fun q hq => ?_) k⟩) (h.2 j hj)⟩
    · have := hL j (mem_ready.1 hj).1
      omega
    · by_cases e : j = q
      · rw [← e]
        exact hL j (mem_ready.1 hj).1
      · rw [getD_set_ne true e] at hq
        exact hL q hq
/-- the first m have come up -/
def allT (L : Array Bool) (m : Nat) : Bool := (List.range m).all fun j => L.getD j true
theorem wpT_behind {n : Nat} {L : Array Bool} {a : Act} {w : World} (hL : allT L m = true) (h : wpAny P .any ops Q n L a w) : wpT P ops Q S m n L a w := by
  refine wpT_rest n L a w (fun j hj => ?_) h
  rcases Nat.lt_or_ge j m with hlt | hge
  · have := List.all_eq_true.1 hL j (List.mem_range.2 hlt)
    rw [hj] at this
    exact Bool.noConfusion this
  · exact hge
/-- whichever of these comes up -/
def AllT (P : Program) (ops : Array Oper) (Q : Exit → Act → World → Prop) (S : World → Prop) (m n : Nat) (L : Array Bool) (a : Act) (w : World) (rs : List Nat) : Prop :=
  ∀ j ∈ rs, wpOp P ops Q j (fun b v => (j < m → S v) ∧ wpT P ops Q S m n (L.setIfInBounds j true) b v) a w
theorem AllT.nil {n : Nat} {L : Array Bool} {a : Act} {w : World} : AllT P ops Q S m n L a w [] := fun _ h => by cases h
theorem AllT.cons {n : Nat} {L : Array Bool} {a : Act} {w : World} {i : Nat} {o : Oper} {rs : List Nat} (ho : ops[i]? = some o)
    (h : ∀ K : Act → World → Prop, (∀ b v, (i < m → S v) → wpT P ops Q S m n (L.setIfInBounds i true) b v → K b v) → if Region.wanted o (yielded ops a.tmps) = true then Oper.wp P o a w K Q else K (a.put o.dst undef) w)
    (hr : AllT P ops Q S m n L a w rs) : AllT P ops Q S m n L a w (i :: rs) := by
  intro j hj
  rcases List.mem_cons.1 hj with e | hj
  · rw [e]
    exact wpOp_step ho fun K hK => h K fun b v h1 h2 => hK b v ⟨h1, h2⟩
  · exact hr j hj
theorem wpT_ready {rs : List Nat} {n : Nat} {L : Array Bool} {a : Act} {w : World} (hr : Region.ready .any ops L = rs) (hne : rs ≠ []) (h : AllT P ops Q S m n L a w rs) : wpT P ops Q S m (n + 1) L a w :=
  ⟨fun h0 => absurd (hr ▸ h0) hne, hr ▸ h⟩
theorem wpT_done {L : Array Bool} {a : Act} {w : World} (hr : Region.ready .any ops L = []) (h : Q .normal a w) : ∀ n, wpT P ops Q S m n L a w
  | 0 => ⟨hr, h⟩
  | _ + 1 => ⟨fun _ => h, by rw [hr]; simp⟩
/-- the beginning -/
theorem wp_region_taken (S : World → Prop) (m : Nat) {id : Nat} {a : Act} {w : World} (hm : P.follows .mixedOrders = true) (h : wpT P ops Q S m ops.size (Array.replicate ops.size false) a w.drew) : (Code.region id ops true).wp P Q a w :=
  wp_region_any hm (wpT_any _ _ _ _ h)
end
end Go.Proofs.Ytmjbhmmcpjhmcaa
