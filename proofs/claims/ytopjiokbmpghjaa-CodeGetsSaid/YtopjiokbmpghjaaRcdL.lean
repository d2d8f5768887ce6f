/-
  The law's own: labels cut short.
-/
import Derived.Test.YtopjiokbmpghjaaRcdI
import Derived.Deep.RegionHeld3
import Derived.Lib.MinMax
namespace Go.Proofs.Ytopjiokbmpghjaa
open Go.RowKit Go.Shelf
set_option linter.unusedVariables false
set_option linter.unusedSimpArgs false

def cut12 (s : ByteArray) : ByteArray := s.extract 0 (min s.size 12)
def cutL (x : L2) : L2 := (cut12 x.1, cut12 x.2)
def cutM (m : M3) : M3 := (m.1, cut12 m.2.1, cut12 m.2.2)
def few5 (l : List L2) : List L2 := (l.take (min l.length 5)).map cutL
def few6 (l : List M3) : List M3 := (l.take (min l.length 6)).map cutM
theorem min_of (n k : Nat) : ∃ m : Nat, m = min n k ∧ min (n : Int) (k : Int) = (m : Int) ∧ m ≤ n ∧ m ≤ k := ⟨min n k, rfl, by omega, Nat.min_le_left _ _, Nat.min_le_right _ _⟩
theorem fewL_take (l : List L2) (k : Nat) (hk : k < l.length) : (l.take (k + 1)).map cutL = (l.take k).map cutL ++ [cutL (l.getD k zL)] := by rw [takeL_next l k hk, List.map_append]; rfl
theorem fewM_take (l : List M3) (k : Nat) (hk : k < l.length) : (l.take (k + 1)).map cutM = (l.take k).map cutM ++ [cutM (l.getD k zM)] := by rw [takeM_next l k hk, List.map_append]; rfl
set_option maxRecDepth 100000 in
set_option maxHeartbeats 6400000 in
theorem labels17_any (oa : Option Addr) (n cap : Nat) (ls : List L2) (w : World) (h : Ls w oa n cap ls) (hn : n ≤ 9223372036854775807) :
    Calls Try.prog 16 #[.slice oa n cap] w fun e w' => (∃ pa m c1, e = .returned (.slice pa m c1) ∧ Ls w' pa m c1 (few5 ls) ∧ m ≤ 5 ∧ (∀ g o, pa = some ⟨g, o, none⟩ → w.heap.size ≤ g)) ∧ Below w.heap.size w w' := by
  have hl := h.len
  have hr := h.room
  obtain ⟨m, hmm, em, hmn, hm5⟩ := min_of n 5
  have HF : Hid (few5 ls = (ls.take m).map cutL) := by show _ = _; unfold few5; rw [hl, hmm]
  clear hmm
  change min (n : Int) 5 = (m : Int) at em
  have own0 : w.ownsRow w.heap.size 57 2 (.slice none 0 0) 0 (cellsL ([] : List L2)) := World.ownsRow_nil _ _ _ _
  go_enter Try.func16, Try.ntmps16
  go_wp2_with fail
  clear em
  go_loopw [3, 5, 12] (fun s3 _ s12 wr => ∃ k : Nat, k ≤ m ∧ s12 = .int .i64 k ∧ wr.ownsRow w.heap.size 57 2 s3 k (cellsL ((ls.take k).map cutL)) ∧ Below w.heap.size w wr) (fun _ _ s12 _ => m - (intOf s12).toNat)
  case atStart => exact ⟨0, Nat.zero_le _, rfl, by simpa using own0, Below.refl _ _⟩
  case round =>
    obtain ⟨k, hk, rfl, hown, hB⟩ := hrel
    by_cases hlt : k < m
    · obtain ⟨g, o, rfl, c0, c1⟩ := (h.below hB (Nat.le_refl _)).cell k (by omega)
      have HX := Lib.hid (fewL_take ls k (by omega))
      have hkn : k < n := by omega
      generalize ls.getD k zL = x at *
      obtain ⟨s, u⟩ := x
      dsimp only at c0 c1
      have HC : Hid (cutL (s, u) = (s.extract 0 (min s.size 12), u.extract 0 (min u.size 12))) := rfl
      obtain ⟨a, ha, ha1, ha2, ha3⟩ := min_of s.size 12
      obtain ⟨b, hb, hb1, hb2, hb3⟩ := min_of u.size 12
      rw [← ha, ← hb] at HC
      change min (s.size : Int) 12 = (a : Int) at ha1
      change min (u.size : Int) 12 = (b : Int) at hb1
      have hB7 := hB.alloc hB.size (.cells #[.string s, .string u] 57)
      have howna := hown.alloc (.cells #[.string s, .string u] 57)
      have e0 : (wr.alloc (.cells #[.string s, .string u] 57)).cell? ⟨wr.heap.size, 0, none⟩ = some (.string s) := by simp
      have e1 : (wr.alloc (.cells #[.string s, .string u] 57)).cell? ⟨wr.heap.size, 1, none⟩ = some (.string u) := by simp
      have hs7 : (wr.alloc (.cells #[.string s, .string u] 57)).heap.size = wr.heap.size + 1 := by simp
      clear h HF ha hb own0
      go_wp2_with fail
      generalize wr.alloc (.cells #[.string s, .string u] 57) = w7 at *
      have hsz8 : w.heap.size ≤ (w7.drew.alloc (.cells #[.string (s.extract 0 a), .string (u.extract 0 b)] 57)).heap.size := by have := hB7.size; simp; omega
      have hone := Ls.one w7.drew (s.extract 0 a, u.extract 0 b)
      rw [show w7.drew.heap.size = wr.heap.size + 1 from hs7] at hone
      have hkeep : ∀ w1, (w7.drew.alloc (.cells #[.string (s.extract 0 a), .string (u.extract 0 b)] 57)).grownBy w1 u3.ownBlock → w1.cell? ⟨wr.heap.size, 0, none⟩ = some (.string s) ∧ w1.cell? ⟨wr.heap.size, 1, none⟩ = some (.string u) := fun w1 hg => by
        have hlt := hown.lt
        have hne : some wr.heap.size ≠ u3.ownBlock := fun e => by have := hlt _ e.symm; omega
        have hb1 := hg.cell_far (a := ⟨wr.heap.size, 0, none⟩) (by simp; omega) hne
        have hb2 := hg.cell_far (a := ⟨wr.heap.size, 1, none⟩) (by simp; omega) hne
        have B := (Below.refl w7.drew.heap.size w7.drew).alloc (Nat.le_refl _) (.cells #[.string (s.extract 0 a), .string (u.extract 0 b)] 57)
        rw [hb1, hb2]
        exact ⟨(B.cell (p := ⟨wr.heap.size, 0, none⟩) (by show _ < w7.heap.size; dsimp only; omega)).trans e0, (B.cell (p := ⟨wr.heap.size, 1, none⟩) (by show _ < w7.heap.size; dsimp only; omega)).trans e1⟩
      have HK := Lib.hid hkeep
      clear hkeep
      generalize wr.heap.size = Bx at *
      go_region_held3 (fun w' => w'.cell? ⟨Bx, 0, none⟩ = some (.string s) ∧ w'.cell? ⟨Bx, 1, none⟩ = some (.string u)) (first | exact HK.out _ hg1 | go_keep) (first | (refine step_append_ls _ (by rfl) (.tmp 16) (.tmp 32) (by rfl) w.heap.size (by rfl) ((own_drewL howna).alloc _) (by rfl) hone (by omega) hsz8 ?_; intro v1 w1 own1 hg1))
      all_goals
        have B8 : Below w.heap.size w w1 := (hB7.drew.alloc hB7.drew.size (.cells #[.string (s.extract 0 a), .string (u.extract 0 b)] 57)).grown hg1 hsz8 (fun r e => (hown.lt r e).1)
        have own2 := own1
        rw [← cellsL_append, ← HC.out, ← HX.out] at own2
        clear own1 hg1 hone hkn c0 c1 e0 e1 howna hown
        go_wp2_with fail
        go_roundw
        case rel => exact ⟨k + 1, by omega, by go_num, own2, B8⟩
        case measure => simp [intOf]; omega
    · obtain rfl : k = m := by omega
      obtain ⟨pa, c1, rfl, hD, _⟩ := Ls.of_own (by rw [List.length_map, List.length_take]; omega) hown
      have HN : Hid (∀ g o, pa = some ⟨g, o, none⟩ → w.heap.size ≤ g) := fun g o e => (hown.lt g (by rw [e]; rfl)).1
      rw [← HF.out] at hD
      clear hown own0 h hl
      go_wp2_with fail
      go_ret
      exact ⟨⟨pa, k, c1, rfl, hD, hm5, HN.out⟩, hB⟩
end Go.Proofs.Ytopjiokbmpghjaa
