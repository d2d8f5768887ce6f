/-
  The law's own: a message cut short.
-/
import Derived.Test.YthncfcjkpcjkiaaGreatDoorLawA
import Derived.StillTailTactics
import Derived.Deep.RegionHeld3
namespace Go.Proofs.YthncfcjkpcjkiaaGreatDoor
open Go.RowKit Go.Shelf
set_option linter.unusedVariables false

def few5 (l : List L2) : List L2 := (l.take (min l.length 5)).map cutL
def few6 (l : List M3) : List M3 := (l.take (min l.length 6)).map cutM
theorem min_of (n k : Nat) : ∃ m : Nat, m = min n k ∧ min (n : Int) (k : Int) = (m : Int) ∧ m ≤ n ∧ m ≤ k := ⟨min n k, rfl, by omega, Nat.min_le_left _ _, Nat.min_le_right _ _⟩
theorem fewL_take (l : List L2) (k : Nat) (hk : k < l.length) : (l.take (k + 1)).map cutL = (l.take k).map cutL ++ [cutL (l.getD k zL)] := by rw [takeL_next l k hk, List.map_append]; rfl
theorem fewM_take (l : List M3) (k : Nat) (hk : k < l.length) : (l.take (k + 1)).map cutM = (l.take k).map cutM ++ [cutM (l.getD k zM)] := by rw [takeM_next l k hk, List.map_append]; rfl
set_option maxRecDepth 100000 in
set_option maxHeartbeats 12800000 in
theorem few_any (q f t : Int) (oa : Option Addr) (n cap : Nat) (ob : Option Addr) (nb cb : Nat) (ls : List L2) (ms : List M3) (w : World)
    (h : Ls w oa n cap ls) (h' : Ms w ob nb cb ms) (hn : n ≤ 9223372036854775807) (hm : nb ≤ 9223372036854775807) :
    Calls Tryz.prog 13 #[.agg (msgC q (.slice oa n cap) f t (.slice ob nb cb))] w fun e w' =>
      (∃ (pa : Option Addr) (n1 c1 : Nat) (pb : Option Addr) (n2 c2 : Nat), e = .returned (.agg (msgC q (.slice pa n1 c1) f t (.slice pb n2 c2))) ∧ Ls w' pa n1 c1 (few5 ls) ∧ Ms w' pb n2 c2 (few6 ms) ∧ (∀ g o, pa = some ⟨g, o, none⟩ → w.heap.size ≤ g) ∧ (∀ g o, pb = some ⟨g, o, none⟩ → w.heap.size ≤ g)) ∧ Below w.heap.size w w' := by
  have hl := h.len
  have hr := h.room
  have hl' := h'.len
  have hr' := h'.room
  obtain ⟨m, hmm, em, hmn, hm5⟩ := min_of n 5
  obtain ⟨p, hpp, ep, hpn, hp6⟩ := min_of nb 6
  have HF : Hid (few5 ls = (ls.take m).map cutL) := by show _ = _; unfold few5; rw [hl, hmm]
  have HG : Hid (few6 ms = (ms.take p).map cutM) := by show _ = _; unfold few6; rw [hl', hpp]
  clear hmm hpp
  change min (n : Int) 5 = (m : Int) at em
  change min (nb : Int) 6 = (p : Int) at ep
  have V1 : Vals (w.alloc (.cells (msgC q (.slice oa n cap) f t (.slice ob nb cb)) 27)) w.heap.size 27 (msgC q (.slice oa n cap) f t (.slice ob nb cb)) := Vals.new w _ _
  have V1' := V1.keep (below_alloc _ (.cells (msgC 0 (.slice none 0 0) 0 0 (.slice none 0 0)) 27)) (Nat.le_refl _)
  have V2 := Vals.new (w.alloc (.cells (msgC q (.slice oa n cap) f t (.slice ob nb cb)) 27)) 27 (msgC 0 (.slice none 0 0) 0 0 (.slice none 0 0))
  have B1 := below_alloc w (.cells (msgC q (.slice oa n cap) f t (.slice ob nb cb)) 27)
  have B2 := B1.alloc B1.size (.cells (msgC 0 (.slice none 0 0) 0 0 (.slice none 0 0)) 27)
  have T := h.below B2 (Nat.le_refl _)
  have M := h'.below B2 (Nat.le_refl _)
  clear h h' V1 B1
  go_enter Tryz.func13, Tryz.ntmps13
  go_upto_region 1 with fail
  obtain ⟨A, hA⟩ : ∃ A, A = w.heap.size := ⟨_, rfl⟩
  have hsz : (w.alloc (.cells (msgC q (.slice oa n cap) f t (.slice ob nb cb)) 27)).heap.size = A + 1 := by rw [hA]; simp
  have hsz2 : ((w.alloc (.cells (msgC q (.slice oa n cap) f t (.slice ob nb cb)) 27)).alloc (.cells (msgC 0 (.slice none 0 0) 0 0 (.slice none 0 0)) 27)).heap.size = A + 2 := by rw [hA]; simp
  rw [hsz] at V2
  rw [← hA] at V1'
  rw [← hA]
  have hAw : w.heap.size ≤ A := by omega
  clear hsz hA
  generalize (w.alloc (.cells (msgC q (.slice oa n cap) f t (.slice ob nb cb)) 27)).alloc (.cells (msgC 0 (.slice none 0 0) 0 0 (.slice none 0 0)) 27) = W at *
  have own0 : W.ownsRow (A + 2) 52 2 (.slice none 0 0) 0 (cellsL ([] : List L2)) := World.ownsRow_nil _ _ _ _
  have x1 : W.cell? ⟨A, 1, none⟩ = some (.slice oa n cap) := V1'.cell 1
  go_wp2_with fail
  clear em x1
  go_loopw [3, 5, 17] (fun s3 _ s17 wr => ∃ k : Nat, k ≤ m ∧ s17 = .int .i64 k ∧ wr.ownsRow (A + 2) 52 2 s3 k (cellsL ((ls.take k).map cutL)) ∧ Below (A + 2) W wr) (fun _ _ s17 _ => m - (intOf s17).toNat)
  case atStart => exact ⟨0, Nat.zero_le _, rfl, by simpa using own0, hsz2 ▸ Below.refl _ _⟩
  case round =>
    obtain ⟨k, hk, rfl, hown, hB⟩ := hrel
    by_cases hlt : k < m
    · obtain ⟨g, o, rfl, c0, c1⟩ := (T.below hB (by omega)).cell k (by omega)
      have HX := Lib.hid (fewL_take ls k (by omega))
      have hkn : k < n := by omega
      generalize ls.getD k zL = x at *
      obtain ⟨s, u⟩ := x
      dsimp only at c0 c1
      have HC : Hid (cutL (s, u) = (s.extract 0 (min s.size 12), u.extract 0 (min u.size 12))) := rfl
      obtain ⟨a, ha, ha1, ha2, ha3⟩ := min_of s.size 12
      obtain ⟨b, hb, hb1, hb2, hb3⟩ := min_of u.size 12
      rw [← ha, ← hb] at HC
      change min (s.size : Int) 12 = (a : Int) at ha1
      change min (u.size : Int) 12 = (b : Int) at hb1
      have hB7 := hB.alloc (hsz2 ▸ hB.size) (.cells #[.string s, .string u] 52)
      have howna := hown.alloc (.cells #[.string s, .string u] 52)
      have e0 : (wr.alloc (.cells #[.string s, .string u] 52)).cell? ⟨wr.heap.size, 0, none⟩ = some (.string s) := by simp
      have e1 : (wr.alloc (.cells #[.string s, .string u] 52)).cell? ⟨wr.heap.size, 1, none⟩ = some (.string u) := by simp
      have hs7 : (wr.alloc (.cells #[.string s, .string u] 52)).heap.size = wr.heap.size + 1 := by simp
      clear T M V1' V2 B2 HF HG ha hb own0
      go_wp2_with fail
      generalize wr.alloc (.cells #[.string s, .string u] 52) = w7 at *
      have hsz8 : A + 2 ≤ (w7.drew.alloc (.cells #[.string (s.extract 0 a), .string (u.extract 0 b)] 52)).heap.size := by have := hB7.size; simp; omega
      have hone := Ls.one w7.drew (s.extract 0 a, u.extract 0 b)
      rw [show w7.drew.heap.size = wr.heap.size + 1 from hs7] at hone
      have hkeep : ∀ w1, (w7.drew.alloc (.cells #[.string (s.extract 0 a), .string (u.extract 0 b)] 52)).grownBy w1 u3.ownBlock → w1.cell? ⟨wr.heap.size, 0, none⟩ = some (.string s) ∧ w1.cell? ⟨wr.heap.size, 1, none⟩ = some (.string u) := fun w1 hg => by
        have hlt := hown.lt
        have hne : some wr.heap.size ≠ u3.ownBlock := fun e => by have := hlt _ e.symm; omega
        have hb1 := hg.cell_far (a := ⟨wr.heap.size, 0, none⟩) (by simp; omega) hne
        have hb2 := hg.cell_far (a := ⟨wr.heap.size, 1, none⟩) (by simp; omega) hne
        have B := (Below.refl w7.drew.heap.size w7.drew).alloc (Nat.le_refl _) (.cells #[.string (s.extract 0 a), .string (u.extract 0 b)] 52)
        rw [hb1, hb2]
        exact ⟨(B.cell (p := ⟨wr.heap.size, 0, none⟩) (by show _ < w7.heap.size; dsimp only; omega)).trans e0, (B.cell (p := ⟨wr.heap.size, 1, none⟩) (by show _ < w7.heap.size; dsimp only; omega)).trans e1⟩
      have HK := Lib.hid hkeep
      clear hkeep
      generalize wr.heap.size = Bx at *
      go_region_held3 (fun w' => w'.cell? ⟨Bx, 0, none⟩ = some (.string s) ∧ w'.cell? ⟨Bx, 1, none⟩ = some (.string u)) (first | exact HK.out _ hg1 | go_keep) (first | (refine step_append_ls _ (by rfl) (.tmp 21) (.tmp 37) (by rfl) (A + 2) (by rfl) ((own_drewL howna).alloc _) (by rfl) hone (by omega) hsz8 ?_; intro v1 w1 own1 hg1))
      all_goals
        have B8 : Below (A + 2) W w1 := (hB7.drew.alloc (hsz2 ▸ hB7.drew.size) (.cells #[.string (s.extract 0 a), .string (u.extract 0 b)] 52)).grown hg1 hsz8 (fun r e => (hown.lt r e).1)
        have own2 := own1
        rw [← cellsL_append, ← HC.out, ← HX.out] at own2
        clear own1 hg1 hone hkn c0 c1 e0 e1 howna hown
        go_wp2_with fail
        go_roundw
        case rel => exact ⟨k + 1, by omega, by go_num, own2, B8⟩
        case measure => simp [intOf]; omega
    · obtain rfl : k = m := by omega
      obtain ⟨pa, c1, rfl, hD, _⟩ := Ls.of_own (by rw [List.length_map, List.length_take]; omega) hown
      have HN : Hid (∀ g o, pa = some ⟨g, o, none⟩ → A + 2 ≤ g) := fun g o e => (hown.lt g (by rw [e]; rfl)).1
      rw [← HF.out] at hD
      clear hown own0 T hl
      have x4 : wr.cell? ⟨A, 4, none⟩ = some (.slice ob nb cb) := (V1'.keep hB (by omega)).cell 4
      obtain ⟨C, hC⟩ : ∃ C, C = wr.heap.size := ⟨_, rfl⟩
      have hCA : A + 2 ≤ C := by have := hB.size; omega
      have hBC : Below C wr wr := hC ▸ Below.refl _ _
      have own0 : wr.ownsRow C 32 3 (.slice none 0 0) 0 (cellsM ([] : List M3)) := World.ownsRow_nil _ _ _ _
      go_wp2_with fail
      clear ep x4
      go_loopw [6, 8, 50] (fun s6 _ s50 wx => ∃ j : Nat, j ≤ p ∧ s50 = .int .i64 j ∧ wx.ownsRow C 32 3 s6 j (cellsM ((ms.take j).map cutM)) ∧ Below C wr wx) (fun _ _ s50 _ => p - (intOf s50).toNat)
      case atStart => exact ⟨0, Nat.zero_le _, rfl, by simpa using own0, hBC⟩
      case round =>
        obtain ⟨j, hj, rfl, hown, hBx⟩ := hrel
        have hsx := hBx.size
        by_cases hlt2 : j < p
        · obtain ⟨g, o, rfl, c0, c1, c2⟩ := (M.below (hB.trans (hBx.mono hCA)) (by omega)).cell j (by omega)
          have HX := Lib.hid (fewM_take ms j (by omega))
          have hjn : j < nb := by omega
          generalize ms.getD j zM = x at *
          obtain ⟨y, s, u⟩ := x
          dsimp only at c0 c1 c2
          have hB7 := hBx.alloc (by omega) (.cells #[.int .i64 y, .string s, .string u] 32)
          have howna := hown.alloc (.cells #[.int .i64 y, .string s, .string u] 32)
          have HO := fun w => one_any (y, s, u) w
          dsimp only [aggM] at HO
          clear M V1' V2 B2 HF HG own0 hD HN hBC hB
          go_wp2_with fail
          refine (HO _).mono ?_
          rintro e w5 ⟨rfl, B5⟩
          have hB5 := hB7.trans (B5.mono (by simp; omega))
          have hown5 := own_keep howna B5
          generalize cutM (y, s, u) = z at *
          obtain ⟨y2, s2, u2⟩ := z
          have hone := Ms.one w5 (y2, s2, u2)
          have hs5 := hB5.size
          clear hB7 B5 howna hown c0 c1 c2 HO
          dsimp only [aggM]
          go_wp2_with (first | (at_builtin; refine wpList_append_ms _ rfl (.tmp 54) (.tmp 57) rfl C rfl (hown5.alloc _) rfl hone (by omega) (by simp <;> omega) ?_; intro v1 w6 own1 hg1; have B8 : Below C _ w6 := (hB5.alloc (by omega) _).grown hg1 (by simp <;> omega) (fun r e => (hown5.lt r e).1)))
          rw [← cellsM_append, ← HX.out] at own1
          clear hone hg1 hown5 hB5
          go_wp2_with fail
          go_roundw
          case rel => exact ⟨j + 1, by omega, by go_num, own1, B8⟩
          case measure => simp [intOf]; omega
        · obtain rfl : j = p := by omega
          obtain ⟨pb, c2, rfl, hE, _⟩ := Ms.of_own (by rw [List.length_map, List.length_take]; omega) hown
          have HN2 : Hid (∀ g o, pb = some ⟨g, o, none⟩ → C ≤ g) := fun g o e => (hown.lt g (by rw [e]; rfl)).1
          rw [← HG.out] at hE
          have hBA := hB.trans (hBx.mono hCA)
          have VA := V1'.keep hBA (by omega)
          have VB := V2.keep hBA (by omega)
          have B9 : Below w.heap.size w wr := B2.trans (hBA.mono (by omega))
          have hDx := hD.below hBx (by omega)
          have x1 : wr.cell? ⟨A, 1, none⟩ = some (.slice oa n cap) := VA.cell 1
          have x4 : wr.cell? ⟨A, 4, none⟩ = some (.slice ob nb cb) := VA.cell 4
          have f1 := VA.free 1
          have f4 := VA.free 4
          clear hown own0 M hl' V1' V2 B2 HF HG hD hBA hB hBx
          go_upto_region 14 with fail
          have VA1 : Vals ((wr.setCell ⟨A, 1, none⟩ (.slice pa k c1)).setCell ⟨A, 4, none⟩ (.slice pb j c2)) A 27 (msgC q (.slice pa k c1) f t (.slice pb j c2)) := by
            have := (VA.set 1 (.slice pa k c1)).set 4 (.slice pb j c2)
            simpa using this
          have VB1 : Vals ((wr.setCell ⟨A, 1, none⟩ (.slice pa k c1)).setCell ⟨A, 4, none⟩ (.slice pb j c2)) (A + 1) 27 (msgC 0 (.slice none 0 0) 0 0 (.slice none 0 0)) :=
            (Below.heap_setCell _ ⟨A, 4, none⟩ _ (A + 1) (by show A + 1 ≠ A; omega)).trans ((Below.heap_setCell wr ⟨A, 1, none⟩ _ (A + 1) (by show A + 1 ≠ A; omega)).trans VB)
          have B10 : Below w.heap.size w ((wr.setCell ⟨A, 1, none⟩ (.slice pa k c1)).setCell ⟨A, 4, none⟩ (.slice pb j c2)) := (B9.setCell (p := ⟨A, 1, none⟩) hAw _).setCell (p := ⟨A, 4, none⟩) hAw _
          have hD1 : Ls ((wr.setCell ⟨A, 1, none⟩ (.slice pa k c1)).setCell ⟨A, 4, none⟩ (.slice pb j c2)) pa k c1 (few5 ls) := by
            refine ⟨hDx.len, hDx.room, fun i hi => ?_⟩
            obtain ⟨g, o, e, h1, h2⟩ := hDx.cell i hi
            have := HN.out g o e
            have hne : A ≠ g := by omega
            exact ⟨g, o, e, setR hne (setR hne h1), setR hne (setR hne h2)⟩
          have hE1 : Ms ((wr.setCell ⟨A, 1, none⟩ (.slice pa k c1)).setCell ⟨A, 4, none⟩ (.slice pb j c2)) pb j c2 (few6 ms) := by
            refine ⟨hE.len, hE.room, fun i hi => ?_⟩
            obtain ⟨g, o, e, h1, h2, h3⟩ := hE.cell i hi
            have := HN2.out g o e
            have hne : A ≠ g := by omega
            exact ⟨g, o, e, setR hne (setR hne h1), setR hne (setR hne h2), setR hne (setR hne h3)⟩
          clear VA VB B9 hDx hE x1 x4 f1 f4
          generalize (wr.setCell ⟨A, 1, none⟩ (.slice pa k c1)).setCell ⟨A, 4, none⟩ (.slice pb j c2) = W1 at *
          have x0 : W1.cell? ⟨A, 0, none⟩ = some (.int .i64 q) := VA1.cell 0
          have x1 : W1.cell? ⟨A, 1, none⟩ = some (.slice pa k c1) := VA1.cell 1
          have x2 : W1.cell? ⟨A, 2, none⟩ = some (.int .i64 f) := VA1.cell 2
          have x3 : W1.cell? ⟨A, 3, none⟩ = some (.int .i64 t) := VA1.cell 3
          have x4 : W1.cell? ⟨A, 4, none⟩ = some (.slice pb j c2) := VA1.cell 4
          have q0 : W1.cell? ⟨A + 1, 0, none⟩ = some (.int .i64 0) := VB1.cell 0
          have q1 : W1.cell? ⟨A + 1, 1, none⟩ = some (.slice none 0 0) := VB1.cell 1
          have q2 : W1.cell? ⟨A + 1, 2, none⟩ = some (.int .i64 0) := VB1.cell 2
          have q3 : W1.cell? ⟨A + 1, 3, none⟩ = some (.int .i64 0) := VB1.cell 3
          have q4 : W1.cell? ⟨A + 1, 4, none⟩ = some (.slice none 0 0) := VB1.cell 4
          have g0 := VB1.free 0
          have g1 := VB1.free 1
          have g2 := VB1.free 2
          have g3 := VB1.free 3
          have g4 := VB1.free 4
          have hV5 := VB1.five (.int .i64 q) (.slice pa k c1) (.int .i64 f) (.int .i64 t) (.slice pb j c2)
          have hB5 := below_five B10 (show w.heap.size ≤ A + 1 by omega) (.int .i64 q) (.slice pa k c1) (.int .i64 f) (.int .i64 t) (.slice pb j c2)
          have hD5 := hD1.five (A := A + 1) (fun g o e _ => by have := HN.out g o e; omega) (.int .i64 q) (.slice pa k c1) (.int .i64 f) (.int .i64 t) (.slice pb j c2)
          have hE5 := hE1.five (A := A + 1) (fun g o e _ => by have := HN2.out g o e; omega) (.int .i64 q) (.slice pa k c1) (.int .i64 f) (.int .i64 t) (.slice pb j c2)
          clear VA1 VB1 B10 hD1 hE1
          go_wp2_with fail
          refine bodyPost_ret (retG1 rfl rfl hV5) rfl ?_
          exact ⟨⟨_, _, _, _, _, _, rfl, hD5, hE5, fun g o e => by have := HN.out g o e; omega, fun g o e => by have := HN2.out g o e; omega⟩, hB5⟩
end Go.Proofs.YthncfcjkpcjkiaaGreatDoor
