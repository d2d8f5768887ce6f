/-
  When labels are free.
-/
import Derived.Test.YtkckdombcnifnaaHshG
import Derived.Test.YtkckdombcnifnaaSrtA
import Derived.Lib.MinMax
namespace Go.Proofs.Ytkckdombcnifnaa
open Go.RowKit Go.Shelf
set_option linter.unusedVariables false

/-- what is told by Free -/
def FreeOut (l : List T3) (L : List L2) (now : Int) (e : Ending) : Prop := (mayT l L now = false ∧ e = .returned (.tuple #[.int .i64 0, .int .i64 1])) ∨ (mayT l L now = true ∧ ∃ t, FreeT l L now t ∧ e = .returned (.tuple #[.int .i64 t, .int .i64 0]))
theorem goT_next (now : Int) (l : List T3) (k : Nat) (hk : k < l.length) : goT now (l.take (k + 1)) = if (l.getD k zT).1 ≤ goT now (l.take k) then max (goT now (l.take k)) (l.getD k zT).2.1 else goT now (l.take k) := by
  have e : l.getD k zT = l[k] := by rw [List.getD_eq_getElem?_getD, List.getElem?_eq_getElem hk]; rfl
  rw [List.take_succ_eq_append_getElem hk, goT_snoc, e]
set_option maxRecDepth 100000 in
set_option maxHeartbeats 6400000 in
theorem free_any (oa : Option Addr) (n cap : Nat) (l : List H5) (ob : Option Addr) (nb cb : Nat) (L : List L2) (now : Int) (w : World) (h : Hs w oa n cap l) (hk : Lk w l) (hn : n ≤ 1000000) (hL : Ls w ob nb cb L) (hnb : nb ≤ 4611686018427387904) :
    Calls Try.prog 12 #[.slice oa n cap, .slice ob nb cb, .int .i64 now] w fun e w' => FreeOut (l.map h3) L now e ∧ Below w.heap.size w w' := by
  have HM := may_any oa n cap l ob nb cb L now w h hk (by omega) hL hnb
  have hl := h.len
  cases hm : mayT (l.map h3) L now with
  | false =>
    have HF : Hid (FreeOut (l.map h3) L now (.returned (.tuple #[.int .i64 0, .int .i64 1]))) := .inl ⟨hm, rfl⟩
    rw [hm] at HM
    clear h hk hL hm
    go_enter Try.func12, Try.ntmps12
    go_wp2_with fail
    refine HM.mono ?_
    rintro e w1 ⟨rfl, B1⟩
    go_wp2_with fail
    go_ret2
    exact ⟨HF.out, B1⟩
  | true =>
    obtain ⟨m1, m2, m3⟩ := mayT_parts hm
    have HF : Hid (∀ t, FreeT (l.map h3) L now t → FreeOut (l.map h3) L now (.returned (.tuple #[.int .i64 t, .int .i64 0]))) := fun t ht => .inr ⟨hm, t, ht, rfl⟩
    have HK : Hid (∀ g1 c1 x, x ∈ keepF [⟨g1, c1, fun x => (allF x.ms L).1⟩] l ↔ x ∈ l ∧ x.ms.all (mB L) = true) := fun g1 c1 x => by
      unfold keepF
      rw [List.mem_filter]
      simp only [List.all_cons, List.all_nil, Bool.and_true]
      constructor
      · rintro ⟨h1, h2⟩
        rw [ask_is m2 (hshT_mem m1 (List.mem_map.2 ⟨x, h1, rfl⟩))] at h2
        exact ⟨h1, h2⟩
      · rintro ⟨h1, h2⟩
        rw [ask_is m2 (hshT_mem m1 (List.mem_map.2 ⟨x, h1, rfl⟩))]
        exact ⟨h1, h2⟩
    rw [hm] at HM
    clear hm m1 m2 m3
    have H3 := fun W => asking_new ob nb cb W
    go_enter Try.func12, Try.ntmps12
    go_wp2_with fail
    refine HM.mono ?_
    rintro e w1 ⟨rfl, B1⟩
    go_wp2_with fail
    refine (H3 _).mono ?_
    rintro e w4 ⟨rfl, hw4⟩
    have B4 : Below w1.heap.size w1 w4 := by rw [hw4]; exact below_alloc _ _
    have c4 : w4.cell? ⟨w1.heap.size, 0, none⟩ = some (.slice ob nb cb) := by rw [hw4]; simp
    clear hw4
    have B14 : Below w.heap.size w w4 := B1.trans (B4.mono B1.size)
    generalize w1.heap.size = A3 at *
    have B5 := below_alloc w4 (.cells #[.func (.func 46) #[] #[.pointer (some ⟨A3, 0, none⟩)]] 41)
    have V5 := Vals.new w4 41 #[.func (.func 46) #[] #[.pointer (some ⟨A3, 0, none⟩)]]
    have B15 := B14.trans (B5.mono B14.size)
    generalize hw5 : w4.alloc (.cells #[.func (.func 46) #[] #[.pointer (some ⟨A3, 0, none⟩)]] 41) = w5 at *
    have HW5 := Lib.hid hw5
    have HMt := matching_any oa n cap l w4.heap.size 1 1 [⟨_, _, fun x => (allF x.ms L).1⟩] w5 (h.below B15 (Nat.le_refl _)) hn rfl (Nat.le_refl _) (fun q hq => by
      simp only [List.mem_cons, List.not_mem_nil, or_false] at hq
      rcases hq with rfl
      exact ⟨tells_asking w5 l (hk.below B15 (Nat.le_refl _)) A3 ob nb cb L (keepR B5 c4) (hL.below B15 (Nat.le_refl _)) hnb, enter_asking⟩) (fun i hi => by
      obtain rfl : i = 0 := by omega
      exact V5.cell 0) (by omega)
    have HR := HK.out 46 #[.pointer (some ⟨A3, 0, none⟩)]
    have hlen : (keepF [⟨46, #[.pointer (some ⟨A3, 0, none⟩)], fun x => (allF x.ms L).1⟩] l).length ≤ n := by rw [← hl]; exact List.length_filter_le _ _
    generalize keepF [⟨46, #[.pointer (some ⟨A3, 0, none⟩)], fun x => (allF x.ms L).1⟩] l = l2 at *
    have HR2 := Lib.hid HR
    clear HR HK hw5 h hk hL V5 c4 B1 B4 B14 H3 hl
    go_wp2_with fail
    rw [HW5.out]
    refine HMt.mono ?_
    rintro e w6 ⟨⟨v, rfl, own6⟩, B6⟩
    have HS := sortH_any w5.heap.size v l2.length l2 w6 rfl own6 B6.size (by omega)
    have B7 := B15.trans (B6.mono B15.size)
    clear own6 HMt B6 B5 HM
    go_wp2_with fail
    refine HS.mono ?_
    rintro e w7 ⟨rfl, ⟨oz, cz, m, rfl, hH, hperm, hsort⟩, B8⟩
    have B9 : Below w.heap.size w w7 := B7.trans (B8.mono B15.size)
    have HFr : Hid (FreeT (l.map h3) L now (goT now (m.map h3))) := goT_free now hsort fun x => by
      constructor
      · intro hx
        obtain ⟨y, hy, rfl⟩ := List.mem_map.1 hx
        obtain ⟨h1, h2⟩ := (HR2.out y).1 (hperm.mem_iff.1 hy)
        exact ⟨List.mem_map.2 ⟨y, h1, rfl⟩, h2⟩
      · rintro ⟨hx, h2⟩
        obtain ⟨y, hy, rfl⟩ := List.mem_map.1 hx
        exact List.mem_map.2 ⟨y, hperm.mem_iff.2 ((HR2.out y).2 ⟨hy, h2⟩), rfl⟩
    have hlm := hH.len
    have hlm2 : (m.map h3).length = l2.length := by rw [List.length_map, hlm]
    generalize l2.length = r at *
    have hroom := hH.room
    clear hsort hperm HR2 HS B8 B7 B15 HW5
    go_wp2_with fail
    go_loopw [9, 11, 27] (fun s9 _ s27 wr => ∃ (k : Nat) (u : Int), k ≤ r ∧ s27 = .int .i64 k ∧ s9 = .int .i64 u ∧ Hid (u = goT now ((m.map h3).take k)) ∧ Below w.heap.size w wr ∧ Below w7.heap.size w7 wr) (fun _ _ s27 _ => r - (intOf s27).toNat)
    case atStart => exact ⟨0, now, Nat.zero_le _, rfl, rfl, by show _ = _; simp [goT], B9, Below.refl _ _⟩
    case round =>
      obtain ⟨k, u, hk, rfl, rfl, HU, hB, hB7⟩ := hrel
      by_cases hlt : k < r
      · obtain ⟨g, o, rfl, c0, c1, c2⟩ := (hH.below hB7 (Nat.le_refl _)).cell k hlt
        have HX := Lib.hid (goT_next now (m.map h3) k (by omega))
        rw [map_at m k (by omega), ← HU.out] at HX
        generalize m.getD k zH = x at *
        have hBA := hB.alloc hB.size (.cells (vH x) 25)
        have hBA7 := hB7.alloc hB7.size (.cells (vH x) 25)
        obtain ⟨f, t, pa, q, c, ms⟩ := x
        dsimp only [vH, h3] at *
        obtain ⟨mm, hmm⟩ : ∃ mm, max u t = mm := ⟨_, rfl⟩
        rw [hmm] at HX
        clear hH
        by_cases hf : f ≤ u
        · have HY : Hid (mm = goT now ((m.map h3).take (k + 1))) := (HX.out.trans (if_pos hf)).symm
          clear HX
          go_wp2_with fail
          go_roundw
          case rel => exact ⟨k + 1, mm, by omega, by go_num, rfl, HY, hBA, hBA7⟩
          case measure => simp [intOf]; omega
        · have HY : Hid (u = goT now ((m.map h3).take (k + 1))) := (HX.out.trans (if_neg hf)).symm
          clear HX
          go_wp2_with fail
          go_roundw
          case rel => exact ⟨k + 1, u, by omega, by go_num, rfl, HY, hBA, hBA7⟩
          case measure => simp [intOf]; omega
      · obtain rfl : k = r := by omega
        have HY := HU.out
        rw [List.take_of_length_le (by omega)] at HY
        have HZ := Lib.hid (HF.out u (HY ▸ HFr.out))
        clear HY HU HF HFr
        go_wp2_with fail
        go_ret2
        exact ⟨HZ.out, hB⟩
end Go.Proofs.Ytkckdombcnifnaa
