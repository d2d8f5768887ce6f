/-
  The document's own answers: which hushes may be, those that are not over, whether labels are hushed, and when they are free.
-/
import Derived.Test.YtkckdombcnifnaaHshA
import Derived.Test.YtkckdombcnifnaaRefMats
import Derived.Test.YtkckdombcnifnaaRefRight
import Derived.Test.YtkckdombcnifnaaRefSame
import Derived.Test.YtkckdombcnifnaaLabW
import Derived.Deep.RegionHeld3
import Derived.Deep.DeepCutAuto
import Derived.Deep.CutBlock
import Derived.RegionTactic
import Derived.StillTailTactics
import Derived.Deep.QuietTactic
import Derived.BigQuiet
namespace Go.Proofs.Ytkckdombcnifnaa
open Go.RowKit Go.Shelf
set_option linter.unusedVariables false

theorem refTime_any (n : Int) (w : World) :
    Calls Try.prog 16 #[.int .i64 n] w fun e w' => e = .returned (.bool (timeB n)) ∧ w' = w := by
  have HT : Hid (timeB n = (decide (0 ≤ n) && decide (n ≤ 1099511627776))) := rfl
  go_enter Try.func16, Try.ntmps16
  by_cases h0 : 0 ≤ n
  · go_wp2_with fail
    go_ret
    exact ⟨retB (by rw [HT.out]; simp [h0]), rfl⟩
  · go_wp2_with fail
    go_ret
    exact ⟨retB (by rw [HT.out, show decide (0 ≤ n) = false by simp; omega]; simp), rfl⟩
set_option maxRecDepth 100000 in
set_option maxHeartbeats 6400000 in
theorem refHushR_any (f t : Int) (ob : Option Addr) (nb cb : Nat) (ms : List M3) (w : World) (h : Ms w ob nb cb ms) (hn : nb ≤ 3074457345618258602) (hS : ShortM ms) :
    Calls Try.prog 18 #[.agg #[.int .i64 f, .int .i64 t, .slice ob nb cb]] w fun e w' => e = .returned (.bool (hushR f t ms)) ∧ Below w.heap.size w w' := by
  have hl := h.len
  have HR := Lib.hid (hushR_is f t ms)
  rw [hl] at HR
  have V0 := Vals.new w 25 #[.int .i64 f, .int .i64 t, .slice ob nb cb]
  have B0 := below_alloc w (.cells #[.int .i64 f, .int .i64 t, .slice ob nb cb] 25)
  have HM := refMatchers_any ob nb cb ms _ (h.below B0 (Nat.le_refl _)) hn hS
  have HF := fun w => refTime_any f w
  have HT := fun w => refTime_any t w
  clear h hS hl
  go_enter Try.func18, Try.ntmps18
  go_upto_region 1 with fail
  generalize w.alloc (.cells #[.int .i64 f, .int .i64 t, .slice ob nb cb] 25) = w1 at *
  have c0 : w1.cell? ⟨w.heap.size, 0, none⟩ = some (.int .i64 f) := V0.cell 0
  have c1 : w1.cell? ⟨w.heap.size, 1, none⟩ = some (.int .i64 t) := V0.cell 1
  have c2 : w1.cell? ⟨w.heap.size, 2, none⟩ = some (.slice ob nb cb) := V0.cell 2
  generalize timeB f = a at *
  generalize timeB t = b at *
  generalize matsB ms = m at *
  cases a with
  | false =>
    clear HT HM
    go_wp2_with fail
    refine (HF _).mono ?_
    rintro e w2 ⟨rfl, rfl⟩
    go_wp2_with fail
    go_ret
    exact ⟨retB (by rw [HR.out]; simp), B0⟩
  | true =>
    cases b with
    | false =>
      clear HM
      go_wp2_with fail
      refine (HF _).mono ?_
      rintro e w2 ⟨rfl, rfl⟩
      go_wp2_with fail
      refine (HT _).mono ?_
      rintro e w2 ⟨rfl, rfl⟩
      go_wp2_with fail
      go_ret
      exact ⟨retB (by rw [HR.out]; simp), B0⟩
    | true =>
      by_cases hft : f < t
      · by_cases hnb : 1 ≤ nb
        · go_wp2_with fail
          refine (HF _).mono ?_
          rintro e w2 ⟨rfl, rfl⟩
          go_wp2_with fail
          refine (HT _).mono ?_
          rintro e w2 ⟨rfl, rfl⟩
          go_wp2_with fail
          refine HM.mono ?_
          rintro e w2 ⟨rfl, B2⟩
          go_wp2_with fail
          go_ret
          exact ⟨retB (by rw [HR.out, decide_eq_true hft, decide_eq_true hnb]; simp), B0.trans (B2.mono B0.size)⟩
        · clear HM
          go_wp2_with fail
          refine (HF _).mono ?_
          rintro e w2 ⟨rfl, rfl⟩
          go_wp2_with fail
          refine (HT _).mono ?_
          rintro e w2 ⟨rfl, rfl⟩
          go_wp2_with fail
          go_ret
          exact ⟨retB (by rw [HR.out, show decide (1 ≤ nb) = false by simp; omega]; simp), B0⟩
      · clear HM
        go_wp2_with fail
        refine (HF _).mono ?_
        rintro e w2 ⟨rfl, rfl⟩
        go_wp2_with fail
        refine (HT _).mono ?_
        rintro e w2 ⟨rfl, rfl⟩
        go_wp2_with fail
        go_ret
        exact ⟨retB (by rw [HR.out, show decide (f < t) = false by simp; omega]; simp), B0⟩
set_option maxRecDepth 100000 in
set_option maxHeartbeats 3200000 in
theorem refHushes_any (f t : Int) (ob : Option Addr) (nb cb : Nat) (od : Option Addr) (nd cd : Nat) (ms : List M3) (w : World) (h : Ms w ob nb cb ms) (h' : Ms w od nd cd ms) (hn : nb ≤ 3074457345618258602) :
    Calls Try.prog 35 #[.agg #[.int .i64 f, .int .i64 t, .slice ob nb cb], .agg #[.int .i64 f, .int .i64 t, .slice od nd cd]] w fun e w' => e = .returned (.bool true) ∧ Below w.heap.size w w' := by
  have B1 := below_alloc w (.cells #[.int .i64 f, .int .i64 t, .slice ob nb cb] 25)
  have B2 := B1.alloc B1.size (.cells #[.int .i64 f, .int .i64 t, .slice od nd cd] 25)
  have HA := asked_any ob nb cb od nd cd ms _ (h.below B2 (Nat.le_refl _)) (h'.below B2 (Nat.le_refl _)) hn
  clear h h'
  go_enter Try.func35, Try.ntmps35
  go_wp2_with fail
  refine HA.mono ?_
  rintro e w3 ⟨rfl, B3⟩
  go_wp2_with fail
  go_ret
  exact ⟨rfl, B2.trans (B3.mono B2.size)⟩

/-- no text of theirs is long -/
def ShH (l : List H5) : Prop := ∀ x ∈ l, ShortM x.ms
set_option maxRecDepth 100000 in
set_option maxHeartbeats 3200000 in
theorem refRightH_any (oa : Option Addr) (n cap : Nat) (l : List H5) (w : World) (h : Hs w oa n cap l) (hk : Lk w l) (hs : ShH l) (hn : n ≤ 1000000) :
    Calls Try.prog 14 #[.slice oa n cap] w fun e w' => e = .returned (.bool (hshT (l.map h3))) ∧ Below w.heap.size w w' := by
  have hl := h.len
  have hr := h.room
  have HY : Hid ((∀ x ∈ l, okT (h3 x) = true) → hshT (l.map h3) = decide (n ≤ 8)) := fun q => by
    unfold hshT
    have : ((l.map h3).any fun h => !okT h) = false := by
      rw [List.any_eq_false]
      intro y hy
      obtain ⟨x, hx, rfl⟩ := List.mem_map.1 hy
      rw [q x hx]
      simp
    rw [this, List.length_map, hl]
    simp
  have HN : Hid (∀ x ∈ l, okT (h3 x) = false → hshT (l.map h3) = false) := fun x hx q => by
    cases e : hshT (l.map h3) with
    | false => rfl
    | true => rw [hshT_mem e (List.mem_map.2 ⟨x, hx, rfl⟩)] at q; cases q
  have HS := Lib.hid hs
  clear hs
  go_enter Try.func14, Try.ntmps14
  go_wp2_with fail
  go_loopw [4, 7] (fun _ s7 wr => ∃ k : Nat, k ≤ n ∧ s7 = .int .i64 k ∧ Below w.heap.size w wr ∧ Hid (∀ x ∈ l.take k, okT (h3 x) = true)) (fun _ s7 _ => n - (intOf s7).toNat)
  case atStart => exact ⟨0, Nat.zero_le _, rfl, Below.refl _ _, fun x hx => by simp at hx⟩
  case round =>
    obtain ⟨k, hkn, rfl, hB, HA⟩ := hrel
    by_cases hlt : k < n
    · obtain ⟨g, o, rfl, c0, c1, c2⟩ := (h.below hB (Nat.le_refl _)).cell k hlt
      have hm := getD_mem l k (by omega)
      have HX := Lib.hid (takeH_next l k (by omega))
      have hM := hk _ hm
      have hSx := HS.out _ hm
      generalize l.getD k zH = x at *
      have hBA := hB.alloc hB.size (.cells (vH x) 25)
      have HT := refHushR_any x.f x.t x.pa x.n x.c x.ms _ (hM.1.below hBA (Nat.le_refl _)) hM.2 hSx
      have HN2 := Lib.hid (HN.out x hm)
      have HE : Hid (okT (h3 x) = hushR x.f x.t x.ms) := rfl
      cases hb : hushR x.f x.t x.ms with
      | false =>
        rw [hb] at HT
        have HZ := Lib.hid (HN2.out (HE.out.trans hb))
        obtain ⟨f, t, pa, m, c, ms⟩ := x
        dsimp only [vH] at *
        clear h hl hM hSx HN HN2 HE HX HA HY hb hm hk
        go_wp2_with fail
        refine HT.mono ?_
        rintro e w1 ⟨rfl, B1⟩
        go_wp2_with fail
        go_ret
        exact ⟨retB HZ.out.symm, hBA.trans (B1.mono hBA.size)⟩
      | true =>
        rw [hb] at HT
        have HZ : Hid (∀ y ∈ l.take (k + 1), okT (h3 y) = true) := fun y hy => by
          rw [HX.out] at hy
          rcases List.mem_append.1 hy with hy | hy
          · exact HA.out y hy
          · rw [List.mem_singleton] at hy
            subst hy
            exact HE.out.trans hb
        obtain ⟨f, t, pa, m, c, ms⟩ := x
        dsimp only [vH] at *
        clear h hl hM hSx HN HN2 HE HX HA HY hb hm hk
        go_wp2_with fail
        refine HT.mono ?_
        rintro e w1 ⟨rfl, B1⟩
        go_wp2_with fail
        go_roundw
        case rel => exact ⟨k + 1, by omega, by go_num, hBA.trans (B1.mono hBA.size), HZ.out⟩
        case measure => simp [intOf]; omega
    · obtain rfl : k = n := by omega
      have HF : Hid (hshT (l.map h3) = decide (k ≤ 8)) := HY.out fun x hx => HA.out x (by rw [List.take_of_length_le (by omega)]; exact hx)
      clear HA hl h HY HN hk
      go_wp2_with fail
      go_ret
      exact ⟨retB (by rw [HF.out, Bool.eq_iff_iff]; simp; omega), hB⟩
/-- those that are not over -/
def keptH (l : List H5) (now : Int) : List H5 := l.filter fun x => decide (now < x.t)
theorem keptH_map (l : List H5) (now : Int) : (keptH l now).map h3 = keptT (l.map h3) now := by
  unfold keptH keptT
  rw [List.filter_map]
  congr 1
theorem keptH_next (l : List H5) (now : Int) (k : Nat) (hk : k < l.length) : keptH (l.take (k + 1)) now = keptH (l.take k) now ++ (if now < (l.getD k zH).t then [l.getD k zH] else []) := by
  unfold keptH
  rw [takeH_next l k hk, List.filter_append]
  congr 1
  generalize l.getD k zH = x
  by_cases h : now < x.t <;> simp [h]
set_option maxRecDepth 100000 in
set_option maxHeartbeats 3200000 in
theorem refKept_any (oa : Option Addr) (n cap : Nat) (l : List H5) (now : Int) (w : World) (h : Hs w oa n cap l) (hn : n ≤ 1000) :
    Calls Try.prog 17 #[.slice oa n cap, .int .i64 now] w fun e w' => (∃ v, e = .returned v ∧ w'.ownsRow w.heap.size 25 3 v (keptH l now).length (cellsH (keptH l now))) ∧ Below w.heap.size w w' := by
  have hl := h.len
  have hr := h.room
  have B0 := below_alloc w (.cells #[] 25)
  have own0 : Hid ((w.alloc (.cells #[] 25)).ownsRow w.heap.size 25 3 (.slice (some ⟨w.heap.size, 0, none⟩) 0 0) (keptH (l.take 0) now).length (cellsH (keptH (l.take 0) now))) := World.ownsRow_made w #[] 0 (Nat.le_refl _) (Nat.zero_le _) rfl
  go_enter Try.func17, Try.ntmps17
  go_wp2_with fail
  go_loopw [5, 7, 11] (fun s5 _ s11 wr => ∃ k : Nat, k ≤ n ∧ s11 = .int .i64 k ∧ Hid (wr.ownsRow w.heap.size 25 3 s5 (keptH (l.take k) now).length (cellsH (keptH (l.take k) now))) ∧ Below w.heap.size w wr) (fun _ _ s11 _ => n - (intOf s11).toNat)
  case atStart => exact ⟨0, Nat.zero_le _, rfl, own0.out, B0⟩
  case round =>
    obtain ⟨k, hk, rfl, HO, hB⟩ := hrel
    by_cases hlt : k < n
    · obtain ⟨g, o, rfl, c0, c1, c2⟩ := (h.below hB (Nat.le_refl _)).cell k hlt
      have HX := Lib.hid (keptH_next l now k (by omega))
      have hlen : (keptH (l.take k) now).length ≤ n := by
        refine Nat.le_trans (List.length_filter_le _ _) ?_
        rw [List.length_take]
        omega
      generalize l.getD k zH = x at *
      have hBA := hB.alloc hB.size (.cells (vH x) 25)
      have hBA1 := below_alloc wr (.cells (vH x) 25)
      have VB := Vals.new wr 25 (vH x)
      have own1 := own_keep HO.out hBA1
      by_cases hf : now < x.t
      · have HY : Hid (keptH (l.take (k + 1)) now = keptH (l.take k) now ++ [x]) := by show _ = _; rw [HX.out, if_pos hf]
        have hone := Hs.one (wr.alloc (.cells (vH x) 25)) x
        have BC := below_alloc (wr.alloc (.cells (vH x) 25)) (.cells (vH x) 25)
        have own2 := own_keep own1 BC
        have hBB := hBA.alloc hBA.size (.cells (vH x) 25)
        obtain ⟨f, t, pa, m, c, ms⟩ := x
        generalize keptH (l.take k) now = l1 at *
        dsimp only [vH] at *
        clear h hl HX HO own0 B0 hBA1 own1
        rw [show (wr.alloc (.cells #[.int .i64 f, .int .i64 t, .slice pa m c] 25)).heap.size = wr.heap.size + 1 by simp] at hone
        go_wp2_with (first | (at_builtin; refine wpList_append_hs _ rfl (.tmp 19) (.tmp 21) rfl w.heap.size rfl own2 rfl hone (by omega) hBB.size ?_; intro v1 w10 own10 hg10; have B15 : Below w.heap.size w w10 := hBB.grown hg10 hBB.size (fun r e => (own2.lt r e).1)))
        have HO2 : Hid (w10.ownsRow w.heap.size 25 3 v1 (keptH (l.take (k + 1)) now).length (cellsH (keptH (l.take (k + 1)) now))) := by
          show World.ownsRow _ _ _ _ _ _ _
          rw [HY.out, List.length_append, cellsH_append]
          exact own10
        clear own10 hg10 own2 hone HY VB
        go_wp2_with fail
        go_roundw
        case rel => exact ⟨k + 1, by omega, by go_num, HO2.out, B15⟩
        case measure => simp [intOf]; omega
      · have HY : Hid (keptH (l.take (k + 1)) now = keptH (l.take k) now) := by show _ = _; rw [HX.out, if_neg hf, List.append_nil]
        have HO2 : Hid ((wr.alloc (.cells (vH x) 25)).ownsRow w.heap.size 25 3 u5 (keptH (l.take (k + 1)) now).length (cellsH (keptH (l.take (k + 1)) now))) := by
          show World.ownsRow _ _ _ _ _ _ _
          rw [HY.out]
          exact own1
        obtain ⟨f, t, pa, m, c, ms⟩ := x
        dsimp only [vH] at *
        clear h hl HX HO own0 B0 hBA1 own1 HY
        go_wp2_with fail
        go_roundw
        case rel => exact ⟨k + 1, by omega, by go_num, HO2.out, hBA⟩
        case measure => simp [intOf]; omega
    · obtain rfl : k = n := by omega
      have HF : Hid (wr.ownsRow w.heap.size 25 3 u5 (keptH l now).length (cellsH (keptH l now))) := by
        have := HO.out
        rw [List.take_of_length_le (by omega)] at this
        exact this
      clear HO hl h own0
      go_wp2_with fail
      go_ret
      exact ⟨⟨_, rfl, HF.out⟩, hB⟩
end Go.Proofs.Ytkckdombcnifnaa
