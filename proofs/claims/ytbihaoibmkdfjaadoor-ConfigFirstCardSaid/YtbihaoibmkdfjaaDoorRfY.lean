/-
  The document's own: a text's lines, and the numbers of words.
  The document's own: words one behind the other, a line of one number, and which routes may be.
  The document's own: which routes may be.
-/
import Derived.Test.YtbihaoibmkdfjaaDoorRfX
namespace Go.Proofs.YtbihaoibmkdfjaaDoor
open Go.RowKit Go.Shelf
set_option linter.unusedVariables false

set_option maxRecDepth 100000 in
set_option maxHeartbeats 1600000 in
theorem refLines_any (s : ByteArray) (w : World) (hs : s.size ≤ 100000) :
    Calls Tryd.prog 6 #[.string s] w fun e w' => (∃ oa cap, e = .returned (.slice oa (linesB (bs s)).length cap) ∧ Ts w' oa (linesB (bs s)).length cap ((linesB (bs s)).map tx) ∧ cap ≤ maxLen ∧ w'.ownsRow w.heap.size 9 1 (.slice oa (linesB (bs s)).length cap) (linesB (bs s)).length (cellsT ((linesB (bs s)).map tx))) ∧ Below w.heap.size w w' := by
  obtain ⟨i0, hi, hz0, hz1, hz2⟩ := info_parts infoTx
  have own0 : (w.alloc (.cells #[] 9)).ownsRow w.heap.size 9 1 (.slice (some ⟨w.heap.size, 0, none⟩) 0 0) 0 (cellsT (List.map tx [])) := World.ownsRow_made w #[] 0 (Nat.le_refl _) (Nat.zero_le _) (by simp)
  have hB0 := (Below.refl w.heap.size w).alloc (Nat.le_refl _) (.cells #[] 9)
  go_enter Tryd.func6, Tryd.ntmps6
  go_wp2_with fail
  go_loopw [3, 4, 5] (fun s3 s4 s5 wr => ∃ (k f : Nat) (ws : List (List UInt8)), k ≤ s.size ∧ f ≤ k ∧ ws.length ≤ k ∧ s5 = .int .i64 k ∧ s4 = .int .i64 f ∧ wr.ownsRow w.heap.size 9 1 s3 ws.length (cellsT (ws.map tx)) ∧ Below w.heap.size w wr ∧ Hid (linesB (bs s) = ws ++ linesW (((bs s).take k).drop f) ((bs s).drop k))) (fun _ _ s5 _ => s.size - (intOf s5).toNat)
  case atStart => exact ⟨0, 0, [], Nat.zero_le _, Nat.le_refl _, Nat.le_refl _, rfl, rfl, own0, hB0, by show linesB _ = _; unfold linesB; simp⟩
  case round =>
    obtain ⟨k, f, ws, hk, hf, hw, rfl, rfl, hown, hB, HS⟩ := hrel
    clear own0 hB0
    by_cases hlt : k < s.size
    · have HN := Lib.hid (cut_next s f k hlt hf)
      have hd := bs_drop s k hlt
      by_cases hc : (s[k]'hlt).toNat = 10
      · have hc1 : ((((s[k]'hlt).toNat : Nat) : Int) == 10) = true := by rw [hc]; rfl
        have he : s[k]'hlt = 10 := UInt8.toNat_inj.1 hc
        have HQ : Hid (linesB (bs s) = (ws ++ [((bs s).take k).drop f]) ++ linesW (((bs s).take (k + 1)).drop (k + 1)) ((bs s).drop (k + 1))) := by
          show _ = _
          rw [HS.out, hd, linesW, if_pos he, List.append_assoc, List.singleton_append]
          congr 3
          rw [List.drop_eq_nil_of_le (by rw [List.length_take]; omega)]
        have HC := Lib.hid (cut_text s f k)
        clear hd he hc HS HN
        have hz := hB.size
        go_wp2_with (at_builtin; refine wpList_append_own _ rfl _ _ 30 rfl w.heap.size 9 i0 _ 1 16 Tryd.underlying30 hi hz0 hz1 hz2 rfl (by decide) _ _ _ rfl (hown.alloc _) ⟨wr.heap.size, 0, none⟩ 1 1 [.string (s.extract f k)] rfl rfl (one_newT _ _ _) (one_cellT _) (by unfold maxLen; omega) (by omega) (by simp; omega) ?_; intro v' w1 hown' hgrow _)
        have B1 : Below w.heap.size w w1 := (hB.alloc hB.size _).grown hgrow (by simp; omega) (fun r e => (hown.lt r e).1)
        have HO : w1.ownsRow w.heap.size 9 1 v' (ws ++ [((bs s).take k).drop f]).length (cellsT ((ws ++ [((bs s).take k).drop f]).map tx)) := by
          rw [List.map_append, List.map_singleton, cellsT_snoc, ← HC.out, List.length_append]
          exact hown'
        clear hown' hgrow hown
        go_wp2_with fail
        go_roundw
        case rel => exact ⟨k + 1, k + 1, ws ++ [((bs s).take k).drop f], by omega, by omega, by rw [List.length_append]; simp; omega, by go_num, by go_num, HO, B1, HQ⟩
        case measure => simp [intOf]; omega
      · have hc1 : ((((s[k]'hlt).toNat : Nat) : Int) == 10) = false := by simp; omega
        have he : s[k]'hlt ≠ 10 := fun e => hc (by rw [e]; rfl)
        have HQ : Hid (linesB (bs s) = ws ++ linesW (((bs s).take (k + 1)).drop f) ((bs s).drop (k + 1))) := by
          show _ = _
          rw [HS.out, hd, linesW, if_neg he, HN.out]
        clear hd he hc HS HN
        go_wp2_with fail
        go_roundw
        case rel => exact ⟨k + 1, f, ws, by omega, by omega, by omega, by go_num, rfl, hown, hB, HQ⟩
        case measure => simp [intOf]; omega
    · obtain rfl : k = s.size := by omega
      have hdr : (bs s).drop s.size = [] := List.drop_eq_nil_of_le (by rw [Array.length_toList]; exact Nat.le_refl _)
      have HC := Lib.hid (cut_text s f s.size)
      have hz := hB.size
      by_cases hfl : f < s.size
      · have HQ : Hid (linesB (bs s) = ws ++ [((bs s).take s.size).drop f]) := by
          show _ = _
          rw [HS.out, hdr, linesW, if_neg]
          intro e
          have := congrArg List.length e
          rw [List.length_drop, List.length_take, Array.length_toList] at this
          simp at this
          have e2 : s.size = s.data.size := rfl
          omega
        clear HS hdr
        go_wp2_with (at_builtin; refine wpList_append_own _ rfl _ _ 30 rfl w.heap.size 9 i0 _ 1 16 Tryd.underlying30 hi hz0 hz1 hz2 rfl (by decide) _ _ _ rfl (hown.alloc _) ⟨wr.heap.size, 0, none⟩ 1 1 [.string (s.extract f s.size)] rfl rfl (one_newT _ _ _) (one_cellT _) (by unfold maxLen; omega) (by omega) (by simp; omega) ?_; intro v' w1 hown' hgrow _)
        have B1 : Below w.heap.size w w1 := (hB.alloc hB.size _).grown hgrow (by simp; omega) (fun r e => (hown.lt r e).1)
        have HO : w1.ownsRow w.heap.size 9 1 v' (linesB (bs s)).length (cellsT ((linesB (bs s)).map tx)) := by
          rw [HQ.out, List.map_append, List.map_singleton, cellsT_snoc, ← HC.out, List.length_append]
          exact hown'
        obtain ⟨oa, cap, rfl, hTs, hcap, hown2⟩ := Ts.of_own (by rw [List.length_map]) HO
        have HT := Lib.hid hTs
        have HOw := Lib.hid HO
        clear hown' hgrow hown HO hown2 hTs
        go_wp2_with fail
        go_ret
        exact ⟨⟨oa, cap, rfl, HT.out, hcap, HOw.out⟩, B1⟩
      · have HQ : Hid (linesB (bs s) = ws) := by
          show _ = _
          rw [HS.out, hdr, linesW, if_pos (List.drop_eq_nil_of_le (by rw [List.length_take]; omega)), List.append_nil]
        have HO := hown
        rw [← HQ.out] at HO
        obtain ⟨oa, cap, rfl, hTs, hcap, hown2⟩ := Ts.of_own (by rw [List.length_map]) HO
        have HT := Lib.hid hTs
        have HOw := Lib.hid HO
        clear hown HO hown2 hTs HS hdr
        go_wp2_with fail
        go_ret
        exact ⟨⟨oa, cap, rfl, HT.out, hcap, HOw.out⟩, hB⟩
/-- what is told of words: their numbers, or that one is none -/
def NumsOut (w w0 : World) (e : Ending) (ws : List (List UInt8)) : Prop := (∃ ns, allO numB ws = some ns ∧ ∃ (oa : Option Addr) (cap : Nat), e = .returned (.tuple #[.slice oa ws.length cap, .bool true]) ∧ Ns w oa ws.length cap (ns.map fun n : Nat => (n : Int))) ∨ (allO numB ws = none ∧ e = .returned (.tuple #[.slice none 0 0, .bool false]))
end Go.Proofs.YtbihaoibmkdfjaaDoor
namespace Go.Proofs.YtbihaoibmkdfjaaDoor
open Go.RowKit Go.Shelf
set_option linter.unusedVariables false

theorem joinB_snoc (ws : List (List UInt8)) (v : List UInt8) : joinB (ws ++ [v]) = if ws = [] then v else joinB ws ++ 32 :: v := by
  cases ws with
  | nil => simp [joinB]
  | cons w ws => simp [joinB]
/-- what is told of a line of two words -/
def OneIs (ws : List (List UInt8)) (m er : Int) : Prop := (er = 0 ∧ oneB ws = .ok m) ∨ (er ≠ 0 ∧ m = 0 ∧ oneB ws = .error er)
theorem chainB_iff (n : Nat) (l : List Int) : chainB n l = true ↔ ∀ i, i < l.length → (0 ≤ l.getD i 0 ∧ l.getD i 0 < (n : Int)) ∧ ∀ j, j < i → l.getD j 0 ≠ l.getD i 0 := by
  unfold chainB
  simp only [Bool.and_eq_true, decide_eq_true_eq, List.all_eq_true]
  constructor
  · rintro ⟨h1, h2⟩ i hi
    refine ⟨by rw [getD_at l i hi]; exact h1 _ (List.getElem_mem _), fun j hj => ?_⟩
    rw [getD_at l i hi, getD_at l j (by omega)]
    exact (List.pairwise_iff_getElem.1 h2) j i (by omega) hi hj
  · intro h
    refine ⟨fun k hk => ?_, ?_⟩
    · obtain ⟨i, hi, rfl⟩ := List.getElem_of_mem hk
      have := (h i hi).1
      rwa [getD_at l i hi] at this
    · refine List.pairwise_iff_getElem.2 fun i j hi hj hij => ?_
      have := (h j hj).2 i hij
      rwa [getD_at l i hi, getD_at l j hj] at this
end Go.Proofs.YtbihaoibmkdfjaaDoor
namespace Go.Proofs.YtbihaoibmkdfjaaDoor
open Go.RowKit Go.Shelf
set_option linter.unusedVariables false

theorem chain_not {n : Nat} {l : List Int} (k : Nat) (hk : k < l.length) (h : l.getD k 0 < 0 ∨ (n : Int) ≤ l.getD k 0 ∨ ∃ j, j < k ∧ l.getD j 0 = l.getD k 0) : chainB n l = false := by
  cases hb : chainB n l with
  | false => rfl
  | true =>
    obtain ⟨h1, h2⟩ := (chainB_iff n l).1 hb k hk
    rcases h with h | h | ⟨j, hj, e⟩
    · omega
    · omega
    · exact absurd e (h2 j hj)
theorem rte_chain {n : Nat} {t : T2} (h : chainB n t.1 = false) : rteR n t = false := by unfold rteR; rw [h]; rfl
end Go.Proofs.YtbihaoibmkdfjaaDoor
