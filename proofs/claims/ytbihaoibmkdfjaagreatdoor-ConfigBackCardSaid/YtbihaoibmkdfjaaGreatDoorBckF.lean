/-
  How long the text of a config is.
-/
import Derived.Test.YtbihaoibmkdfjaaGreatDoorPlnX
namespace Go.Proofs.YtbihaoibmkdfjaaGreatDoor
open Go.RowKit
set_option linter.unusedVariables false

theorem tailT_len (k : Nat) : ∀ ws : List (List UInt8), (∀ v ∈ ws, v.length ≤ k) → (ws.flatMap fun v => 32 :: v).length ≤ ws.length * (k + 1)
  | [], _ => by simp
  | a :: l, h => by
    have h1 := h a (by simp)
    have h2 := tailT_len k l fun v hv => h v (by simp [hv])
    simp only [List.flatMap_cons, List.length_append, List.length_cons, Nat.add_mul, Nat.one_mul] at h2 ⊢
    omega
theorem joinT_len (k : Nat) : ∀ ws : List (List UInt8), (∀ v ∈ ws, v.length ≤ k) → (joinB ws).length ≤ ws.length * (k + 1)
  | [], _ => by simp [joinB]
  | a :: l, h => by
    have h1 := h a (by simp)
    have h2 := tailT_len k l fun v hv => h v (by simp [hv])
    simp only [joinB, List.length_append, List.length_cons, Nat.add_mul, Nat.one_mul] at h2 ⊢
    omega
theorem linesT_len (k : Nat) : ∀ ws : List (List UInt8), (∀ v ∈ ws, v.length ≤ k) → (ws.flatMap fun v => v ++ [10]).length ≤ ws.length * (k + 1)
  | [], _ => by simp
  | a :: l, h => by
    have h1 := h a (by simp)
    have h2 := linesT_len k l fun v hv => h v (by simp [hv])
    simp only [List.flatMap_cons, List.length_append, List.length_cons, List.length_nil, Nat.add_mul, Nat.one_mul] at h2 ⊢
    omega
theorem nameT_len {s : ByteArray} (h : nameB s = true) : s.data.toList.length ≤ 8 := by
  unfold nameB shortB at h
  simp only [Bool.and_eq_true, decide_eq_true_eq] at h
  rw [Array.length_toList]
  exact h.2.1
theorem valueT_len {s : ByteArray} (h : valueB s = true) : s.data.toList.length ≤ 8 := by
  unfold valueB shortB at h
  simp only [Bool.and_eq_true, decide_eq_true_eq] at h
  rw [Array.length_toList]
  exact h.1
theorem digsT_len {n : Int} (h : n ≤ 1073741824) : (digsB n.toNat).length ≤ 20 := by
  have := digsB_length 9 n.toNat (by omega)
  omega
theorem wordsT_len {c : CfgL} (h : cfgR c = true) : ∀ w ∈ cfgW c, w.length ≤ 10 ∧ ∀ v ∈ w, v.length ≤ 20 := by
  obtain ⟨h1, h2, h3, h4, h5, h6, h7⟩ := cfg_parts h
  have hnm : ∀ r ∈ c.1, r.nm.data.toList.length ≤ 8 := fun r hr => by
    have := h1 r hr
    unfold rcvR at this
    simp only [Bool.and_eq_true] at this
    exact nameT_len this.1
  have hget : ∀ k : Nat, (c.1.getD k zR).nm.data.toList.length ≤ 8 := fun k => by
    by_cases hk : k < c.1.length
    · rw [List.getD_eq_getElem?_getD, List.getElem?_eq_getElem hk]
      exact hnm _ (List.getElem_mem hk)
    · rw [List.getD_eq_getElem?_getD, List.getElem?_eq_none (by omega)]
      show (0 : Nat) ≤ 8
      omega
  intro w hw
  unfold cfgW at hw
  rw [List.mem_append, List.mem_append, List.mem_map, List.mem_map] at hw
  rcases hw with ⟨r, hr, rfl⟩ | ⟨t, ht, rfl⟩ | hw
  · have hb := h1 r hr
    have hn := hnm r hr
    unfold rcvR backB triB brkB at hb
    simp only [Bool.and_eq_true, decide_eq_true_eq] at hb
    obtain ⟨_, _, ⟨b1, b2, b3, b4, b5, b6⟩, ⟨b7, b8⟩, ⟨b9, b10, b11, b12⟩, b13, b14, b15, b16⟩ := hb
    refine ⟨by simp [rcvW, rcvN], fun v hv => ?_⟩
    simp only [rcvW, rcvN, List.mem_cons, List.map_cons, List.map_nil, List.not_mem_nil, or_false] at hv
    rcases hv with rfl | rfl | rfl | rfl | rfl | rfl | rfl | rfl | rfl | rfl
    · decide
    · omega
    all_goals exact digsT_len (by omega)
  · have hb := h3 t ht
    unfold rteR matsB at hb
    simp only [Bool.and_eq_true, decide_eq_true_eq, Bool.not_eq_true', List.any_eq_false] at hb
    obtain ⟨_, b1, b2, b3, b4⟩ := hb
    refine ⟨by simp [rteW]; omega, fun v hv => ?_⟩
    simp only [rteW, List.mem_cons, List.mem_append, List.mem_map] at hv
    rcases hv with rfl | ⟨k, hk, rfl⟩ | rfl | ⟨m, hm, rfl⟩
    · decide
    · have := hget k.toNat
      omega
    · decide
    · have hmB : matB m = true := by simpa using b4 m hm
      unfold matB at hmB
      simp only [Bool.and_eq_true] at hmB
      obtain ⟨⟨⟨_, n1⟩, n2⟩, _⟩ := hmB
      have z1 := nameT_len n1
      have z2 := valueT_len n2
      unfold askB
      rw [List.length_append, List.length_cons]
      omega
  · unfold oftenB at h6 h7
    simp only [Bool.and_eq_true, decide_eq_true_eq] at h6 h7
    simp only [List.mem_cons, List.not_mem_nil, or_false] at hw
    rcases hw with rfl | rfl
    · refine ⟨by simp, fun v hv => ?_⟩
      simp only [List.mem_cons, List.not_mem_nil, or_false] at hv
      rcases hv with rfl | rfl
      · decide
      · exact digsT_len h6.2
    · refine ⟨by simp, fun v hv => ?_⟩
      simp only [List.mem_cons, List.not_mem_nil, or_false] at hv
      rcases hv with rfl | rfl
      · decide
      · exact digsT_len h7.2
/-- the text of a config that may be is short -/
theorem printT_len {c : CfgL} (h : cfgR c = true) : (printC c).length ≤ 5000 := by
  have hw := wordsT_len h
  obtain ⟨_, _, _, h4, h5, _, _⟩ := cfg_parts h
  have h8 : ∀ v ∈ (cfgW c).map joinB, v.length ≤ 210 := fun v hv => by
    obtain ⟨w, hm, rfl⟩ := List.mem_map.1 hv
    obtain ⟨a, b⟩ := hw w hm
    have := joinT_len 20 w b
    omega
  have h9 := linesT_len 210 _ h8
  unfold printC
  rw [List.length_map] at h9
  have h10 : (cfgW c).length ≤ 10 := by unfold cfgW; simp; omega
  omega
end Go.Proofs.YtbihaoibmkdfjaaGreatDoor
