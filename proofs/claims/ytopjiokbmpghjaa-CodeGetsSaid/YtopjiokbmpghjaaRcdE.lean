/-
  The document's own: labels and matchers out of a text's bytes.
-/
import Derived.Test.YtopjiokbmpghjaaRcdD
import Derived.Test.YtopjiokbmpghjaaLApp
import Derived.Test.YtopjiokbmpghjaaMApp
import Derived.Test.YtopjiokbmpghjaaVals
import Derived.Test.YtopjiokbmpghjaaRcdA
namespace Go.Proofs.Ytopjiokbmpghjaa
open Go.RowKit Go.Shelf
set_option linter.unusedVariables false
set_option linter.unusedSimpArgs false

theorem own_past {w w' : World} {base : Nat} {e : TypeId} {size : Nat} {v : Value} {n : Nat} {xs : List Value} (h : w.ownsRow base e size v n xs) (hB : Below w.heap.size w w') : w'.ownsRow base e size v n xs := by
  refine ⟨h.1, ?_⟩
  rcases h.2 with h2 | ⟨g, cap, cur, h3, h4, h5, h6⟩
  · exact .inl h2
  · exact .inr ⟨g, cap, cur, h3, h4, (hB.block g (Array.getElem?_eq_some_iff.1 h5).1).trans h5, h6⟩
theorem someN_stop {L : List UInt8} {m i : Nat} (h : ¬ i < L.length) : someN L m i = [] := by
  cases m with
  | zero => rfl
  | succ m => rw [someN, if_neg h]
theorem someN_next {L : List UInt8} {m i : Nat} (h : i < L.length) : someN L (m + 1) i = (tx (wordN L i).1, tx (wordN L (wordN L i).2).1) :: someN L m (wordN L (wordN L i).2).2 := by rw [someN, if_pos h]
theorem askedN_stop {L : List UInt8} {m i : Nat} (h : ¬ i < L.length) : askedN L m i = [] := by
  cases m with
  | zero => rfl
  | succ m => rw [askedN, if_neg h]
theorem wordN_le (L : List UInt8) (i : Nat) : (wordN L i).2 ≤ max (i + 1) L.length ∧ (wordN L i).1.length ≤ L.length := by
  unfold wordN endN
  split
  · exact ⟨by show i + 1 ≤ _; omega, by simp⟩
  · refine ⟨by show min _ _ ≤ _; omega, ?_⟩
    simp only [List.length_drop, List.length_take]
    omega
set_option maxRecDepth 100000 in
set_option maxHeartbeats 3200000 in
theorem some_any (L : List UInt8) (hL : L.length ≤ 1000) (i : Nat) (hi : i ≤ 100) (w : World) :
    Calls Try.prog 39 #[.string (tx L), .int .i64 (i : Int)] w fun e w' => (∃ oa n cap, e = .returned (.slice oa n cap) ∧ Ls w' oa n cap (someN L (atN L i) (i + 1)) ∧ n ≤ 255) ∧ Below w.heap.size w w' := by
  have HT := fun w => at_any L (by omega) i w
  have HW := fun j (hj : j ≤ 2000000) w => word_any L (by omega) j hj w
  have HWl := fun j => wordN_le L j
  have hz := tx_size L
  have hN := atN_le L i
  obtain ⟨R, hR⟩ : ∃ R, Hid (someN L (atN L i) (i + 1) = R) := ⟨_, rfl⟩
  rw [hR.out]
  generalize atN L i = N at *
  have hz2 : ((tx L).size : Int) = (L.length : Int) := by rw [hz]
  generalize tx L = s at *
  have B0 := below_alloc w (.cells #[] 57)
  have own0 : (w.alloc (.cells #[] 57)).ownsRow w.heap.size 57 2 (.slice (some ⟨w.heap.size, 0, none⟩) 0 0) 0 (cellsL []) := World.ownsRow_made w #[] 0 (Nat.le_refl _) (Nat.zero_le _) rfl
  go_enter Try.func39, Try.ntmps39
  go_wp2_with fail
  refine (HT _).mono ?_
  rintro e w1 ⟨rfl, rfl⟩
  go_wp2_with fail
  generalize hW0 : w.alloc (.cells #[] 57) = w1 at *
  go_loopw [1, 5, 7, 8] (fun s1 s5 s7 _ wr => ∃ (k j : Nat) (v : Value) (l : List L2), k ≤ N ∧ s7 = .int .i64 k ∧ s1 = .int .i64 (j : Int) ∧ j ≤ 2000 ∧ s5 = v ∧ wr.ownsRow w.heap.size 57 2 v k (cellsL l) ∧ l.length = k ∧ Hid (l ++ someN L (N - k) j = R) ∧ Below w.heap.size w wr) (fun _ _ s7 _ _ => N - (intOf s7).toNat)
  case atStart => exact ⟨0, i + 1, _, [], Nat.zero_le _, rfl, by go_num, by omega, rfl, own0, rfl, hR, B0⟩
  case round =>
    obtain ⟨k, j, v, l, hk, rfl, rfl, hj, rfl, hown, hl, HR2, hB⟩ := hrel
    by_cases hlt : k < N
    · by_cases hjl : j < L.length
      · obtain ⟨m, hm⟩ : ∃ m, N - k = m + 1 := ⟨N - k - 1, by omega⟩
        have hm2 : N - (k + 1) = m := by omega
        have HY : Hid ((l ++ [(tx (wordN L j).1, tx (wordN L (wordN L j).2).1)]) ++ someN L m (wordN L (wordN L j).2).2 = R) := by
          show _ = _
          have := HR2.out
          rw [hm, someN_next hjl] at this
          rw [List.append_assoc]
          exact this
        have q1 := HWl j
        have q2 := HWl (wordN L j).2
        have HA := fun w => HW j (by omega) w
        have HC := fun w => HW (wordN L j).2 (by omega) w
        generalize (wordN L (wordN L j).2).2 = j2 at *
        generalize tx (wordN L (wordN L j).2).1 = b at *
        generalize (wordN L j).2 = j1 at *
        generalize tx (wordN L j).1 = a at *
        have hj2 : j2 ≤ 2000 := by omega
        have hjs : (j : Int) < (s.size : Int) := by omega
        have hone := Ls.one (wr.alloc (.cells #[.string a, .string b] 57)) (a, b)
        rw [World.size_alloc] at hone
        have hs1 := hB.size
        have B3 := (hB.alloc hB.size (.cells #[.string a, .string b] 57)).alloc (by rw [World.size_alloc]; omega) (.cells #[.string a, .string b] 57)
        clear HR2 HW HWl HT q1 q2 hm
        go_wp2_with fail
        refine (HA _).mono ?_
        rintro e w2 ⟨rfl, rfl⟩
        go_wp2_with fail
        refine (HC _).mono ?_
        rintro e w3 ⟨rfl, rfl⟩
        go_wp2_with (first | (at_builtin; refine wpList_append_ls _ rfl (.tmp 41) (.tmp 43) rfl w.heap.size rfl ((hown.alloc _).alloc _) rfl hone (by omega) (by simp <;> omega) ?_; intro v1 w4 own1 hg1; have B4 : Below w.heap.size w w4 := B3.grown hg1 (by simp <;> omega) (fun r e => (hown.lt r e).1)))
        rw [← cellsL_append] at own1
        clear hone B3 hown HA HC
        go_wp2_with fail
        go_roundw
        case rel => exact ⟨k + 1, j2, v1, l ++ [(a, b)], by omega, by go_num, rfl, hj2, rfl, own1, by rw [List.length_append, hl]; rfl, by rw [hm2]; exact HY, B4⟩
        case measure => simp [intOf]; omega
      · have HF : Hid (l = R) := by
          show _ = _
          have := HR2.out
          rw [someN_stop hjl, List.append_nil] at this
          exact this
        obtain ⟨oa, cap, rfl, hO, _⟩ := Ls.of_own hl hown
        clear HR2 HT HW HWl
        have hjs : ¬ (j : Int) < (s.size : Int) := by omega
        go_wp2_with fail
        go_ret
        exact ⟨⟨oa, k, cap, rfl, HF.out ▸ hO, by omega⟩, hB⟩
    · obtain rfl : k = N := by omega
      have HF : Hid (l = R) := by
        show _ = _
        have := HR2.out
        rw [Nat.sub_self, someN, List.append_nil] at this
        exact this
      obtain ⟨oa, cap, rfl, hO, _⟩ := Ls.of_own hl hown
      clear HR2 HT HW HWl
      go_wp2_with fail
      go_ret
      exact ⟨⟨oa, k, cap, rfl, HF.out ▸ hO, hN⟩, hB⟩
theorem askedN_next {L : List UInt8} {m i : Nat} (h : i < L.length) : askedN L (m + 1) i = ((atN L i : Int), tx (wordN L (i + 1)).1, tx (wordN L (wordN L (i + 1)).2).1) :: askedN L m (wordN L (wordN L (i + 1)).2).2 := by rw [askedN, if_pos h]
set_option maxRecDepth 100000 in
set_option maxHeartbeats 3200000 in
theorem askd_any (L : List UInt8) (hL : L.length ≤ 1000) (i : Nat) (hi : i ≤ 100) (w : World) :
    Calls Try.prog 40 #[.string (tx L), .int .i64 (i : Int)] w fun e w' => (∃ oa n cap, e = .returned (.slice oa n cap) ∧ Ms w' oa n cap (askedN L (atN L i) (i + 1)) ∧ n ≤ 255) ∧ Below w.heap.size w w' := by
  have HT := fun w => at_any L (by omega) i w
  have HAt := fun (j : Nat) w => at_any L (by omega) j w
  have HW := fun j (hj : j ≤ 2000000) w => word_any L (by omega) j hj w
  have HWl := fun j => wordN_le L j
  have hz := tx_size L
  have hN := atN_le L i
  obtain ⟨R, hR⟩ : ∃ R, Hid (askedN L (atN L i) (i + 1) = R) := ⟨_, rfl⟩
  rw [hR.out]
  generalize atN L i = N at *
  have hz2 : ((tx L).size : Int) = (L.length : Int) := by rw [hz]
  generalize tx L = s at *
  have B0 := below_alloc w (.cells #[] 45)
  have own0 : (w.alloc (.cells #[] 45)).ownsRow w.heap.size 45 3 (.slice (some ⟨w.heap.size, 0, none⟩) 0 0) 0 (cellsM []) := World.ownsRow_made w #[] 0 (Nat.le_refl _) (Nat.zero_le _) rfl
  go_enter Try.func40, Try.ntmps40
  go_wp2_with fail
  refine (HT _).mono ?_
  rintro e w1 ⟨rfl, rfl⟩
  go_wp2_with fail
  generalize hW0 : w.alloc (.cells #[] 45) = w1 at *
  go_loopw [1, 5, 7, 8] (fun s1 s5 s7 _ wr => ∃ (k j : Nat) (v : Value) (l : List M3), k ≤ N ∧ s7 = .int .i64 k ∧ s1 = .int .i64 (j : Int) ∧ j ≤ 2000 ∧ s5 = v ∧ wr.ownsRow w.heap.size 45 3 v k (cellsM l) ∧ l.length = k ∧ Hid (l ++ askedN L (N - k) j = R) ∧ Below w.heap.size w wr) (fun _ _ s7 _ _ => N - (intOf s7).toNat)
  case atStart => exact ⟨0, i + 1, _, [], Nat.zero_le _, rfl, by go_num, by omega, rfl, own0, rfl, hR, B0⟩
  case round =>
    obtain ⟨k, j, v, l, hk, rfl, rfl, hj, rfl, hown, hl, HR2, hB⟩ := hrel
    by_cases hlt : k < N
    · by_cases hjl : j < L.length
      · obtain ⟨m, hm⟩ : ∃ m, N - k = m + 1 := ⟨N - k - 1, by omega⟩
        have hm2 : N - (k + 1) = m := by omega
        have HY : Hid ((l ++ [((atN L j : Int), tx (wordN L (j + 1)).1, tx (wordN L (wordN L (j + 1)).2).1)]) ++ askedN L m (wordN L (wordN L (j + 1)).2).2 = R) := by
          show _ = _
          have := HR2.out
          rw [hm, askedN_next hjl] at this
          rw [List.append_assoc]
          exact this
        have q1 := HWl (j + 1)
        have q2 := HWl (wordN L (j + 1)).2
        have HK := fun w => HAt j w
        have HA := fun w => HW (j + 1) (by omega) w
        have HC := fun w => HW (wordN L (j + 1)).2 (by omega) w
        have hq0 := atN_le L j
        rw [show ((j + 1 : Nat) : Int) = (j : Int) + 1 by omega] at HA
        generalize (wordN L (wordN L (j + 1)).2).2 = j2 at *
        generalize tx (wordN L (wordN L (j + 1)).2).1 = b at *
        generalize (wordN L (j + 1)).2 = j1 at *
        generalize tx (wordN L (j + 1)).1 = a at *
        generalize ((atN L j : Nat) : Int) = q at *
        have hj2 : j2 ≤ 2000 := by omega
        have hjs : (j : Int) < (s.size : Int) := by omega
        have hone := Ms.one (wr.alloc (.cells #[.int .i64 q, .string a, .string b] 45)) (q, a, b)
        rw [World.size_alloc] at hone
        have hs1 := hB.size
        have B3 := (hB.alloc hB.size (.cells #[.int .i64 q, .string a, .string b] 45)).alloc (by rw [World.size_alloc]; omega) (.cells #[.int .i64 q, .string a, .string b] 45)
        clear HR2 HW HWl HT HAt q1 q2 hm
        go_wp2_with fail
        refine (HK _).mono ?_
        rintro e w2 ⟨rfl, rfl⟩
        go_wp2_with fail
        refine (HA _).mono ?_
        rintro e w2 ⟨rfl, rfl⟩
        go_wp2_with fail
        refine (HC _).mono ?_
        rintro e w3 ⟨rfl, rfl⟩
        go_wp2_with (first | (at_builtin; refine wpList_append_ms _ rfl (.tmp 45) (.tmp 47) rfl w.heap.size rfl ((hown.alloc _).alloc _) rfl hone (by omega) (by simp <;> omega) ?_; intro v1 w4 own1 hg1; have B4 : Below w.heap.size w w4 := B3.grown hg1 (by simp <;> omega) (fun r e => (hown.lt r e).1)))
        rw [← cellsM_append] at own1
        clear hone B3 hown HA HC HK
        go_wp2_with fail
        go_roundw
        case rel => exact ⟨k + 1, j2, v1, l ++ [(q, a, b)], by omega, by go_num, rfl, hj2, rfl, own1, by rw [List.length_append, hl]; rfl, by rw [hm2]; exact HY, B4⟩
        case measure => simp [intOf]; omega
      · have HF : Hid (l = R) := by
          show _ = _
          have := HR2.out
          rw [askedN_stop hjl, List.append_nil] at this
          exact this
        obtain ⟨oa, cap, rfl, hO, _⟩ := Ms.of_own hl hown
        clear HR2 HT HW HWl HAt
        have hjs : ¬ (j : Int) < (s.size : Int) := by omega
        go_wp2_with fail
        go_ret
        exact ⟨⟨oa, k, cap, rfl, HF.out ▸ hO, by omega⟩, hB⟩
    · obtain rfl : k = N := by omega
      have HF : Hid (l = R) := by
        show _ = _
        have := HR2.out
        rw [Nat.sub_self, askedN, List.append_nil] at this
        exact this
      obtain ⟨oa, cap, rfl, hO, _⟩ := Ms.of_own hl hown
      clear HR2 HT HW HWl HAt
      go_wp2_with fail
      go_ret
      exact ⟨⟨oa, k, cap, rfl, HF.out ▸ hO, hN⟩, hB⟩
end Go.Proofs.Ytopjiokbmpghjaa
