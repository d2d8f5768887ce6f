/-
  A row of hushes copied, its matchers too.
-/
import Derived.Test.YtkckdombcnifnaaHshI
namespace Go.Proofs.Ytkckdombcnifnaa
open Go.RowKit Go.Shelf
set_option linter.unusedVariables false

theorem CpInv.at {w wr : World} {l dk : List H5} {k : Nat} (h : CpInv w wr l dk k) (hk : k < l.length) : dk.getD k zH = l.getD k zH := by
  have e := congrArg (fun m => m[0]?) h.rest
  simp only [List.getElem?_drop, Nat.add_zero] at e
  rw [List.getD_eq_getElem?_getD, List.getD_eq_getElem?_getD, e]
theorem CpInv.next {w wr w' : World} {l dk : List H5} {k : Nat} (h : CpInv w wr l dk k) (hk : k < l.length) {pa : Option Addr} {m c : Nat} (hm : (l.getD k zH).ms.length = m) (hown : w'.ownsRow w.heap.size 51 3 (.slice pa m c) m (cellsM (l.getD k zH).ms))
    (hold : ∀ v n xs, wr.ownsRow w.heap.size 51 3 v n xs → w'.ownsRow w.heap.size 51 3 v n xs) : CpInv w w' l (dk.set k { dk.getD k zH with pa := pa, n := m, c := c }) (k + 1) := by
  have hl := h.len
  have ha := h.at hk
  refine ⟨by rw [List.length_set, hl], by rw [set_h3 dk k pa m c (by omega), h.same], ?_, ?_⟩
  · rw [List.drop_set_of_lt (by omega), ← List.drop_drop, ← List.drop_drop, h.rest]
  · intro x hx
    rw [List.take_succ_eq_append_getElem (by rw [List.length_set]; omega), List.take_set, List.set_eq_of_length_le (by simp <;> omega), List.getElem_set_self] at hx
    rcases List.mem_append.1 hx with hx | hx
    · exact ⟨hold _ _ _ (h.own x hx).1, (h.own x hx).2⟩
    · rw [List.mem_singleton] at hx
      subst hx
      rw [ha]
      exact ⟨hown, hm⟩
theorem CpInv.old {w wr w' : World} {l dk : List H5} {k : Nat} (h : CpInv w wr l dk k) (hold : ∀ v n xs, wr.ownsRow w.heap.size 51 3 v n xs → w'.ownsRow w.heap.size 51 3 v n xs) : CpInv w w' l dk k :=
  ⟨h.len, h.same, h.rest, fun x hx => ⟨hold _ _ _ (h.own x hx).1, (h.own x hx).2⟩⟩
/-- what a row of hushes is, handed back -/
def RowOut (w' : World) (ts : List T3) (v : Value) : Prop := ∃ (oa : Option Addr) (cap : Nat) (rs : List H5), v = .slice oa rs.length cap ∧ Hs w' oa rs.length cap rs ∧ Lk w' rs ∧ rs.map h3 = ts ∧ cap ≤ maxLen
theorem RowOut.below {w w' : World} {ts : List T3} {v : Value} (h : RowOut w ts v) (hB : Below w.heap.size w w') : RowOut w' ts v := by
  obtain ⟨oa, cap, rs, e, h1, h2, h3, h4⟩ := h
  exact ⟨oa, cap, rs, e, h1.below hB (Nat.le_refl _), h2.below hB (Nat.le_refl _), h3, h4⟩
theorem CpInv.done {w wr : World} {l dk : List H5} {v : Value} {n base : Nat} (h : CpInv w wr l dk n) (hn : l.length = n) (hown : wr.ownsRow base 25 3 v n (cellsH dk)) (h4 : ∀ x ∈ l, x.ms.length ≤ 4) : RowOut wr (l.map h3) v := by
  have hl := h.len
  obtain ⟨oa, cap, rfl, hH, hm⟩ := Hs.of_own (by omega) hown
  refine ⟨oa, cap, dk, by rw [hl, hn], by rw [hl, hn]; exact hH, fun x hx => ?_, h.same, hm⟩
  have hx2 : x ∈ dk.take n := by rw [List.take_of_length_le (by omega)]; exact hx
  obtain ⟨o1, o2⟩ := h.own x hx2
  obtain ⟨ob, c2, e, hM, _⟩ := Ms.of_own o2 o1
  cases e
  refine ⟨hM, ?_⟩
  have h5 : h3 x ∈ l.map h3 := by rw [← h.same]; exact List.mem_map.2 ⟨x, hx, rfl⟩
  obtain ⟨y, hy, e⟩ := List.mem_map.1 h5
  have := h4 y hy
  have e2 : y.ms = x.ms := congrArg (fun t => t.2.2) e
  rw [e2, o2] at this
  omega
set_option maxRecDepth 100000 in
set_option maxHeartbeats 6400000 in
theorem copyOf_any (oa : Option Addr) (n cap : Nat) (l : List H5) (w : World) (h : Hs w oa n cap l) (hk : Lk w l) (hn : n ≤ 1000000) (h4 : ∀ x ∈ l, x.ms.length ≤ 4) :
    Calls Try.prog 27 #[.slice oa n cap] w fun e w' => (∃ v, e = .returned v ∧ RowOut w' (l.map h3) v) ∧ Below w.heap.size w w' := by
  have HC := cloneH_any oa n cap l w h hn
  have hl := h.len
  have H4 := Lib.hid h4
  clear h h4
  go_enter Try.func27, Try.ntmps27
  go_wp2_with fail
  refine HC.mono ?_
  rintro e w1 ⟨⟨v, rfl, own0⟩, B0⟩
  have I0 : Hid (CpInv w w1 l l 0) := ⟨rfl, rfl, rfl, fun x hx => by simp at hx⟩
  obtain ⟨ov, cv, rfl, _, _⟩ := Hs.of_own hl own0
  clear HC
  go_wp2_with fail
  go_loopw [4, 5, 10] (fun _ _ s10 wr => ∃ (k : Nat) (dk : List H5), k ≤ n ∧ s10 = .int .i64 k ∧ Hid (wr.ownsRow w.heap.size 25 3 (.slice ov n cv) n (cellsH dk)) ∧ Below w.heap.size w wr ∧ Hid (CpInv w wr l dk k)) (fun _ _ s10 _ => n - (intOf s10).toNat)
  case atStart => exact ⟨0, l, Nat.zero_le _, rfl, own0, B0, I0⟩
  case round =>
    obtain ⟨k, dk, hkn, rfl, HO, hB, HI⟩ := hrel
    by_cases hlt : k < n
    · have own := HO.out
      obtain ⟨g, rfl, hbg, hgl, hfz⟩ := frozenH own (by omega)
      obtain ⟨_, _, e, hH, _⟩ := Hs.of_own (by rw [HI.out.len]; exact hl) own
      cases e
      obtain ⟨_, _, e, c0, c1, c2⟩ := hH.cell k hlt
      cases e
      rw [Nat.zero_add] at c0 c1 c2
      have hat := HI.out.at (by omega)
      obtain ⟨hM, hM2⟩ := hk.at k (by omega)
      have hx4 := H4.out _ (getD_mem l k (by omega))
      have HN : Hid (∀ (w' : World) pa m c, (l.getD k zH).ms.length = m → w'.ownsRow w.heap.size 51 3 (.slice pa m c) m (cellsM (l.getD k zH).ms) → (∀ v n xs, wr.ownsRow w.heap.size 51 3 v n xs → w'.ownsRow w.heap.size 51 3 v n xs) → CpInv w w' l (dk.set k { dk.getD k zH with pa := pa, n := m, c := c }) (k + 1)) := fun w' pa m c q1 q2 q3 => HI.out.next (by omega) q1 q2 q3
      have HSet : Hid (∀ (W : World) (pa : Option Addr) (m c : Nat), W.ownsRow w.heap.size 25 3 (.slice (some ⟨g, 0, none⟩) n cv) n (cellsH dk) → (W.setCell ⟨g, k * 3 + 2, none⟩ (.slice pa m c)).ownsRow w.heap.size 25 3 (.slice (some ⟨g, 0, none⟩) n cv) n (cellsH (dk.set k { dk.getD k zH with pa := pa, n := m, c := c }))) := fun W pa m c q => own_setH2 (by rw [HI.out.len]; exact hl) q k hlt pa m c
      rw [hat] at c0 c1 c2
      generalize hx : l.getD k zH = x at *
      have hml := hM.len
      have BA := below_alloc wr (.cells (vH x) 25)
      have VB := Vals.new wr 25 (vH x)
      have hBA := hB.trans (BA.mono hB.size)
      have ownA := own_keep own BA
      have HCl := cloneM_any x.pa x.n x.c x.ms _ (hM.below hBA (Nat.le_refl _)) (by omega)
      obtain ⟨f, t, pa, m, c, ms⟩ := x
      dsimp only [vH] at *
      have v2 : (wr.alloc (.cells #[.int .i64 f, .int .i64 t, .slice pa m c] 25)).cell? ⟨wr.heap.size, 2, none⟩ = some (.slice pa m c) := VB.cell 2
      have hsz : wr.heap.size ≤ (wr.alloc (.cells #[.int .i64 f, .int .i64 t, .slice pa m c] 25)).heap.size := BA.size
      have hsw := hB.size
      have HBA := Lib.hid BA
      clear hx hat hk hM hM2 own HO HI VB H4 BA I0 hH
      go_wp2_with fail
      generalize wr.alloc (.cells #[.int .i64 f, .int .i64 t, .slice pa m c] 25) = w3 at *
      refine HCl.mono ?_
      rintro e w4 ⟨⟨v', rfl, own4⟩, B4⟩
      obtain ⟨o4, k4, rfl, _, _⟩ := Ms.of_own hml own4
      have ownB := own_keep ownA B4
      obtain ⟨_, e, _, hgl4, hfz4⟩ := frozenH ownB (by omega)
      cases e
      have s4 := own_someH ownB (k * 3 + 2) (by omega)
      obtain ⟨u4, hu4⟩ := Option.isSome_iff_exists.1 s4
      have own5 := HSet.out w4 o4 m k4 ownB
      have ownM := own_setO (own_base own4 (Nat.le_trans hsw hsz)) ownB (by decide) (k * 3 + 2) (.slice o4 m k4)
      have HI5 := HN.out (w4.setCell ⟨g, k * 3 + 2, none⟩ (.slice o4 m k4)) o4 m k4 hml ownM (fun v n xs q => own_setO (own_keep (own_keep q HBA.out) B4) ownB (by decide) (k * 3 + 2) (.slice o4 m k4))
      have B5 : Below w.heap.size w (w4.setCell ⟨g, k * 3 + 2, none⟩ (.slice o4 m k4)) := (hBA.trans (B4.mono (Nat.le_trans hsw hsz))).setCell (p := ⟨g, k * 3 + 2, none⟩) hbg _
      have HO5 := Lib.hid own5
      have HI6 := Lib.hid HI5
      clear own5 HI5 ownM own4 ownA ownB s4 HN HSet HCl B4 hBA c0 c1 c2
      go_wp2_with fail
      go_roundw
      case rel => exact ⟨k + 1, _, by omega, by go_num, HO5.out, B5, HI6.out⟩
      case measure => simp [intOf]; omega
    · obtain rfl : k = n := by omega
      have HR := Lib.hid (HI.out.done hl HO.out H4.out)
      clear HO HI H4 hk I0 own0
      go_wp2_with fail
      go_ret
      exact ⟨⟨_, rfl, HR.out⟩, hB⟩
end Go.Proofs.Ytkckdombcnifnaa
