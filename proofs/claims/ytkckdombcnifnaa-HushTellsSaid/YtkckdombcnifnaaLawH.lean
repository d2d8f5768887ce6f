/-
  The law's own: a hush cut short.
-/
import Derived.Test.YtkckdombcnifnaaHshI
import Derived.Lib.MinMax
import Derived.StillTailTactics
import Derived.BigRegion
import Derived.Deep.RegionHeld3
import Derived.Deep.DeepCutAuto
import Derived.Deep.CutBlock
import Derived.RegionTactic
import Derived.Deep.RegionLaw
namespace Go.Proofs.Ytkckdombcnifnaa
open Go.RowKit Go.Shelf
set_option linter.unusedVariables false

def cutS (s : ByteArray) : ByteArray := s.extract 0 (min s.size 12)
def cutM (m : M3) : M3 := (m.1, cutS m.2.1, cutS m.2.2)
def few6 (l : List M3) : List M3 := (l.take (min l.length 6)).map cutM
def cutT (h : T3) : T3 := (h.1, h.2.1, few6 h.2.2)
def fewT (l : List T3) : List T3 := (l.take (min l.length 10)).map cutT
theorem minN_of (n k : Nat) : ∃ m : Nat, m = min n k ∧ min (n : Int) (k : Int) = (m : Int) ∧ m ≤ n ∧ m ≤ k := ⟨min n k, rfl, by omega, Nat.min_le_left _ _, Nat.min_le_right _ _⟩
theorem take_next {α : Type} (z : α) (l : List α) (k : Nat) (hk : k < l.length) : l.take (k + 1) = l.take k ++ [l.getD k z] := by
  rw [List.take_succ_eq_append_getElem hk, List.getD_eq_getElem?_getD, List.getElem?_eq_getElem hk]; rfl
theorem few_next {α β : Type} (f : α → β) (z : α) (l : List α) (k : Nat) (hk : k < l.length) : (l.take (k + 1)).map f = (l.take k).map f ++ [f (l.getD k z)] := by rw [take_next z l k hk, List.map_append]; rfl
theorem own_drewM {w : World} {base : Nat} {e : TypeId} {s : Nat} {v : Value} {n : Nat} {xs : List Value} (h : w.ownsRow base e s v n xs) : w.drew.ownsRow base e s v n xs := h
theorem cutS_size (s : ByteArray) : (cutS s).size ≤ 12 := by unfold cutS; simp; omega
theorem few6_len (l : List M3) : (few6 l).length ≤ 6 := by unfold few6; simp; omega
theorem few6_short (l : List M3) : ∀ k, k < (few6 l).length → ((few6 l).getD k zM).2.1.size ≤ 4611686018427387904 ∧ ((few6 l).getD k zM).2.2.size ≤ 4611686018427387904 := by
  intro k hk
  have hm : (few6 l).getD k zM ∈ few6 l := by rw [getD_M _ _ hk]; exact List.getElem_mem hk
  obtain ⟨m, _, e⟩ := List.mem_map.1 hm
  rw [← e]
  have h1 := cutS_size m.2.1
  have h2 := cutS_size m.2.2
  exact ⟨show (cutS m.2.1).size ≤ _ by omega, show (cutS m.2.2).size ≤ _ by omega⟩
theorem retH1 {fn : Func} {p : Tmp} (h : fn.results = #[.cell p 25]) {tmps : Array Value} {w : World} {A : Nat} {f t : Int} {v : Value} (hp : tmps.getD p undef = .pointer (some ⟨A, 0, none⟩))
    (hV : Vals w A 25 #[.int .i64 f, .int .i64 t, v]) : (results fn tmps).run Try.prog w = .ok (.agg #[.int .i64 f, .int .i64 t, v]) w := by
  exact results_cell_row h tmps w A 25 #[.int .i64 f, .int .i64 t, v] _ _ hp hV Try.underlying25 rfl (by kernel_rfl)
/-- a hush whose matchers are one's own -/
def PartH (w : World) (base : Nat) (x : H5) : Prop := w.ownsRow base 51 3 (.slice x.pa x.n x.c) x.n (cellsM x.ms) ∧ x.ms.length = x.n ∧ x.n ≤ 6
theorem PartH.ms {w : World} {base : Nat} {x : H5} (h : PartH w base x) : Ms w x.pa x.n x.c x.ms := by
  obtain ⟨oa, cap, e, hM, _⟩ := Ms.of_own h.2.1 h.1
  cases e
  exact hM
def CutOut (w w' : World) (x : H5) (e : Ending) : Prop := ∃ y : H5, e = .returned (aggH y) ∧ h3 y = cutT (h3 x) ∧ PartH w' w.heap.size y
set_option maxRecDepth 100000 in
set_option maxHeartbeats 6400000 in
theorem cut_any (x : H5) (w : World) (hM : Ms w x.pa x.n x.c x.ms) (hn : x.n ≤ 9223372036854775807) :
    Calls Try.prog 8 #[aggH x] w fun e w' => CutOut w w' x e ∧ Below w.heap.size w w' := by
  obtain ⟨f, t, pa, n, c, ms⟩ := x
  have hl := hM.len
  have hr := hM.room
  dsimp only at hl hr hn hM
  obtain ⟨u, hu, eu, hun, hu6⟩ := minN_of n 6
  have HF : Hid (few6 ms = (ms.take u).map cutM) := by show _ = _; unfold few6; rw [hl, ← hu]
  have HO : Hid (∀ (w' : World) (ob : Option Addr) (c' : Nat), w'.ownsRow w.heap.size 51 3 (.slice ob u c') u (cellsM ((ms.take u).map cutM)) → CutOut w w' ⟨f, t, pa, n, c, ms⟩ (.returned (.agg #[.int .i64 f, .int .i64 t, .slice ob u c']))) := fun w' ob c' q => ⟨⟨f, t, ob, u, c', few6 ms⟩, rfl, rfl, by
    refine ⟨?_, ?_, hu6⟩
    · show World.ownsRow _ _ _ _ _ _ (cellsM (few6 ms))
      rw [HF.out]
      exact q
    · show (few6 ms).length = u
      rw [HF.out, List.length_map, List.length_take]
      omega⟩
  change min (n : Int) 6 = (u : Int) at eu
  have V1 : Vals (w.alloc (.cells #[.int .i64 f, .int .i64 t, .slice pa n c] 25)) w.heap.size 25 #[.int .i64 f, .int .i64 t, .slice pa n c] := Vals.new w _ _
  have V1' := V1.keep (below_alloc _ (.cells #[.int .i64 0, .int .i64 0, .slice none 0 0] 25)) (Nat.le_refl _)
  have V2 := Vals.new (w.alloc (.cells #[.int .i64 f, .int .i64 t, .slice pa n c] 25)) 25 #[.int .i64 0, .int .i64 0, .slice none 0 0]
  have B1 := below_alloc w (.cells #[.int .i64 f, .int .i64 t, .slice pa n c] 25)
  have B2 := B1.alloc B1.size (.cells #[.int .i64 0, .int .i64 0, .slice none 0 0] 25)
  have M := hM.below B2 (Nat.le_refl _)
  clear hM V1 B1 hu HF
  dsimp only [aggH, vH]
  go_enter Try.func8, Try.ntmps8
  go_upto_region 1 with fail
  obtain ⟨A, hA⟩ : ∃ A, A = w.heap.size := ⟨_, rfl⟩
  have hsz : (w.alloc (.cells #[.int .i64 f, .int .i64 t, .slice pa n c] 25)).heap.size = A + 1 := by rw [hA]; simp
  have hsz2 : ((w.alloc (.cells #[.int .i64 f, .int .i64 t, .slice pa n c] 25)).alloc (.cells #[.int .i64 0, .int .i64 0, .slice none 0 0] 25)).heap.size = A + 2 := by rw [hA]; simp
  rw [hsz] at V2
  rw [← hA] at V1'
  rw [← hA]
  have hAw : w.heap.size ≤ A := by omega
  clear hsz hA
  generalize (w.alloc (.cells #[.int .i64 f, .int .i64 t, .slice pa n c] 25)).alloc (.cells #[.int .i64 0, .int .i64 0, .slice none 0 0] 25) = W at *
  have own0 : W.ownsRow (A + 2) 51 3 (.slice none 0 0) 0 (cellsM ([] : List M3)) := World.ownsRow_nil _ _ _ _
  have x2 : W.cell? ⟨A, 2, none⟩ = some (.slice pa n c) := V1'.cell 2
  have hBW : Below (A + 2) W W := Below.refl _ _
  go_wp2_with fail
  clear eu x2
  go_loopw [3, 5, 14] (fun s3 _ s14 wr => ∃ k : Nat, k ≤ u ∧ s14 = .int .i64 k ∧ wr.ownsRow (A + 2) 51 3 s3 k (cellsM ((ms.take k).map cutM)) ∧ Below (A + 2) W wr) (fun _ _ s14 _ => u - (intOf s14).toNat)
  case atStart => exact ⟨0, Nat.zero_le _, rfl, by simpa using own0, hBW⟩
  case round =>
    obtain ⟨k, hk, rfl, hown, hB⟩ := hrel
    have hsB := hB.size
    by_cases hlt : k < u
    · obtain ⟨g, o, rfl, c0, c1, c2⟩ := (M.below hB (by omega)).cell k (by omega)
      have HX := Lib.hid (few_next cutM zM ms k (by omega))
      have hkn : k < n := by omega
      generalize ms.getD k zM = x at *
      obtain ⟨y, s, r⟩ := x
      dsimp only at c0 c1 c2
      have HC : Hid (cutM (y, s, r) = (y, s.extract 0 (min s.size 12), r.extract 0 (min r.size 12))) := rfl
      obtain ⟨a, ha, ha1, ha2, ha3⟩ := minN_of s.size 12
      obtain ⟨b, hb, hb1, hb2, hb3⟩ := minN_of r.size 12
      rw [← ha, ← hb] at HC
      change min (s.size : Int) 12 = (a : Int) at ha1
      change min (r.size : Int) 12 = (b : Int) at hb1
      have hB7 := hB.alloc (by omega) (.cells #[.int .i64 y, .string s, .string r] 51)
      have howna := hown.alloc (.cells #[.int .i64 y, .string s, .string r] 51)
      have e0 : (wr.alloc (.cells #[.int .i64 y, .string s, .string r] 51)).cell? ⟨wr.heap.size, 0, none⟩ = some (.int .i64 y) := by simp
      have e1 : (wr.alloc (.cells #[.int .i64 y, .string s, .string r] 51)).cell? ⟨wr.heap.size, 1, none⟩ = some (.string s) := by simp
      have e2 : (wr.alloc (.cells #[.int .i64 y, .string s, .string r] 51)).cell? ⟨wr.heap.size, 2, none⟩ = some (.string r) := by simp
      have hs7 : (wr.alloc (.cells #[.int .i64 y, .string s, .string r] 51)).heap.size = wr.heap.size + 1 := by simp
      clear M V1' V2 B2 HO ha hb own0 hBW
      go_wp2_with fail
      generalize wr.alloc (.cells #[.int .i64 y, .string s, .string r] 51) = w7 at *
      have hsz8 : A + 2 ≤ (w7.drew.alloc (.cells #[.int .i64 y, .string (s.extract 0 a), .string (r.extract 0 b)] 51)).heap.size := by have := hB7.size; simp; omega
      have hone := Ms.one w7.drew (y, s.extract 0 a, r.extract 0 b)
      rw [show w7.drew.heap.size = wr.heap.size + 1 from hs7] at hone
      have hlt7 := hown.lt
      have hkeep : ∀ w1, (w7.drew.alloc (.cells #[.int .i64 y, .string (s.extract 0 a), .string (r.extract 0 b)] 51)).grownBy w1 u3.ownBlock → w1.cell? ⟨wr.heap.size, 0, none⟩ = some (.int .i64 y) ∧ w1.cell? ⟨wr.heap.size, 1, none⟩ = some (.string s) ∧ w1.cell? ⟨wr.heap.size, 2, none⟩ = some (.string r) := fun w1 hg => by
        have hne : some wr.heap.size ≠ u3.ownBlock := fun e => by have := hlt7 _ e.symm; omega
        have hb1 := hg.cell_far (a := ⟨wr.heap.size, 0, none⟩) (by simp; omega) hne
        have hb2 := hg.cell_far (a := ⟨wr.heap.size, 1, none⟩) (by simp; omega) hne
        have hb3 := hg.cell_far (a := ⟨wr.heap.size, 2, none⟩) (by simp; omega) hne
        have B := (Below.refl w7.drew.heap.size w7.drew).alloc (Nat.le_refl _) (.cells #[.int .i64 y, .string (s.extract 0 a), .string (r.extract 0 b)] 51)
        rw [hb1, hb2, hb3]
        exact ⟨(B.cell (p := ⟨wr.heap.size, 0, none⟩) (by show _ < w7.heap.size; dsimp only; omega)).trans e0, (B.cell (p := ⟨wr.heap.size, 1, none⟩) (by show _ < w7.heap.size; dsimp only; omega)).trans e1, (B.cell (p := ⟨wr.heap.size, 2, none⟩) (by show _ < w7.heap.size; dsimp only; omega)).trans e2⟩
      have HK := Lib.hid hkeep
      clear hkeep
      generalize wr.heap.size = Bx at *
      go_region_held3 (fun w' => w'.cell? ⟨Bx, 0, none⟩ = some (.int .i64 y) ∧ w'.cell? ⟨Bx, 1, none⟩ = some (.string s) ∧ w'.cell? ⟨Bx, 2, none⟩ = some (.string r)) (first | exact HK.out _ hg1 | go_keep) (first | (refine step_append_ms _ (by rfl) (.tmp 18) (.tmp 36) (by rfl) (A + 2) (by rfl) ((own_drewM howna).alloc _) (by rfl) hone (by omega) hsz8 ?_; intro v1 w1 own1 hg1))
      all_goals
        have B8 : Below (A + 2) W w1 := (hB7.drew.alloc (by have := hB7.drew.size; omega) (.cells #[.int .i64 y, .string (s.extract 0 a), .string (r.extract 0 b)] 51)).grown hg1 hsz8 (fun r e => (hlt7 r e).1)
        have own2 := own1
        rw [← cellsM_append, ← HC.out, ← HX.out] at own2
        clear own1 hg1 hone hkn c0 c1 c2 e0 e1 e2 howna hown
        go_wp2_with fail
        go_roundw
        case rel => exact ⟨k + 1, by omega, by go_num, own2, B8⟩
        case measure => simp [intOf]; omega
    · obtain rfl : k = u := by omega
      obtain ⟨ob, k5, rfl, _, _⟩ := Ms.of_own (by rw [List.length_map, List.length_take]; omega) hown
      have VA := V1'.keep hB (by omega)
      have VB := V2.keep hB (by omega)
      have y0 : wr.cell? ⟨A, 0, none⟩ = some (.int .i64 f) := VA.cell 0
      have y1 : wr.cell? ⟨A, 1, none⟩ = some (.int .i64 t) := VA.cell 1
      have q0 : wr.cell? ⟨A + 1, 0, none⟩ = some (.int .i64 0) := VB.cell 0
      have q1 : wr.cell? ⟨A + 1, 1, none⟩ = some (.int .i64 0) := VB.cell 1
      have q2 : wr.cell? ⟨A + 1, 2, none⟩ = some (.slice none 0 0) := VB.cell 2
      have g0 := VB.free 0
      have g1 := VB.free 1
      have g2 := VB.free 2
      have V3 : Vals (((wr.setCell ⟨A + 1, 0, none⟩ (.int .i64 f)).setCell ⟨A + 1, 1, none⟩ (.int .i64 t)).setCell ⟨A + 1, 2, none⟩ (.slice ob k k5)) (A + 1) 25 #[.int .i64 f, .int .i64 t, .slice ob k k5] := by
        have := ((VB.set 0 (.int .i64 f)).set 1 (.int .i64 t)).set 2 (.slice ob k k5)
        simpa using this
      have own3 := ownsRow_setCell_below (ownsRow_setCell_below (ownsRow_setCell_below hown (a := ⟨A + 1, 0, none⟩) (show A + 1 < A + 2 by omega) (.int .i64 f)) (a := ⟨A + 1, 1, none⟩) (show A + 1 < A + 2 by omega) (.int .i64 t)) (a := ⟨A + 1, 2, none⟩) (show A + 1 < A + 2 by omega) (.slice ob k k5)
      have B9 : Below w.heap.size w wr := B2.trans (hB.mono (by omega))
      have B10 : Below w.heap.size w (((wr.setCell ⟨A + 1, 0, none⟩ (.int .i64 f)).setCell ⟨A + 1, 1, none⟩ (.int .i64 t)).setCell ⟨A + 1, 2, none⟩ (.slice ob k k5)) := ((B9.setCell (p := ⟨A + 1, 0, none⟩) (show w.heap.size ≤ A + 1 by omega) _).setCell (p := ⟨A + 1, 1, none⟩) (show w.heap.size ≤ A + 1 by omega) _).setCell (p := ⟨A + 1, 2, none⟩) (show w.heap.size ≤ A + 1 by omega) _
      have HZ := Lib.hid (HO.out _ ob k5 (own_base own3 (show w.heap.size ≤ A + 2 by omega)))
      clear HO own3 hown own0 M V1' V2 B2 VA VB B9 hB hBW
      go_wp2_with fail
      refine bodyPost_ret (retH1 rfl rfl V3) rfl ?_
      exact ⟨HZ.out, B10⟩
end Go.Proofs.Ytkckdombcnifnaa
