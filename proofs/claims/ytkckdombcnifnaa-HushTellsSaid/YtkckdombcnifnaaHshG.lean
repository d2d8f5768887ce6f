/-
  Whether labels are hushed.
-/
import Derived.Test.YtkckdombcnifnaaHshF
import Derived.Deep.RegionHeld3
import Derived.RegionTactic
namespace Go.Proofs.Ytkckdombcnifnaa
open Go.RowKit Go.Shelf
set_option linter.unusedVariables false

theorem ask_is {L : List L2} {x : H5} (hr : rightB L = true) (ho : okT (h3 x) = true) : (allF x.ms L).1 = x.ms.all (mB L) := by
  have hm : matsB x.ms = true := (okT_parts ho).2.2.2
  unfold allF
  rw [hr, hm]
  rfl
/-- what is told by Active -/
def actF (l : List T3) (L : List L2) (now : Int) : Bool × Int := if mayT l L now = true then (actT l L now, 0) else (false, 1)
def ActOut (l : List T3) (L : List L2) (now : Int) (e : Ending) : Prop := e = .returned (.tuple #[.bool (actF l L now).1, .int .i64 (actF l L now).2])
theorem len_any {α : Type} (p : α → Bool) (l : List α) : decide (0 < (l.filter p).length) = l.any p := by
  rw [Bool.eq_iff_iff, decide_eq_true_eq, List.length_pos_iff_exists_mem, List.any_eq_true]
  exact ⟨fun ⟨x, hx⟩ => ⟨x, (List.mem_filter.1 hx).1, (List.mem_filter.1 hx).2⟩, fun ⟨x, h1, h2⟩ => ⟨x, List.mem_filter.2 ⟨h1, h2⟩⟩⟩
theorem keep_act {l : List H5} {L : List L2} (now : Int) (hr : rightB L = true) (hh : hshT (l.map h3) = true) (g1 g2 g3 : Nat) (c1 c2 c3 : Array Value) :
    decide (0 < (keepF [⟨g1, c1, fun x => decide (x.f ≤ now)⟩, ⟨g2, c2, fun x => decide (now < x.t)⟩, ⟨g3, c3, fun x => (allF x.ms L).1⟩] l).length) = actT (l.map h3) L now := by
  have e : keepF [⟨g1, c1, fun x => decide (x.f ≤ now)⟩, ⟨g2, c2, fun x => decide (now < x.t)⟩, ⟨g3, c3, fun x => (allF x.ms L).1⟩] l = l.filter fun x => onT L now (h3 x) := by
    unfold keepF
    apply List.filter_congr
    intro x hx
    simp only [List.all_cons, List.all_nil, Bool.and_true]
    rw [ask_is hr (hshT_mem hh (List.mem_map.2 ⟨x, hx, rfl⟩))]
    rfl
  rw [e, len_any]
  unfold actT
  rw [List.any_map]
  rfl
theorem mayT_parts {l : List T3} {L : List L2} {now : Int} (h : mayT l L now = true) : hshT l = true ∧ rightB L = true ∧ timeB now = true := by
  unfold mayT at h
  simp only [Bool.and_eq_true] at h
  exact ⟨h.1, h.2.1, h.2.2⟩
set_option maxRecDepth 100000 in
set_option maxHeartbeats 3200000 in
theorem active_any (oa : Option Addr) (n cap : Nat) (l : List H5) (ob : Option Addr) (nb cb : Nat) (L : List L2) (now : Int) (w : World) (h : Hs w oa n cap l) (hk : Lk w l) (hn : n ≤ 1000000) (hL : Ls w ob nb cb L) (hnb : nb ≤ 4611686018427387904) :
    Calls Try.prog 11 #[.slice oa n cap, .slice ob nb cb, .int .i64 now] w fun e w' => ActOut (l.map h3) L now e ∧ Below w.heap.size w w' := by
  have HM := may_any oa n cap l ob nb cb L now w h hk (by omega) hL hnb
  cases hm : mayT (l.map h3) L now with
  | false =>
    have HF : Hid (ActOut (l.map h3) L now (.returned (.tuple #[.bool false, .int .i64 1]))) := by show ActOut _ _ _ _; unfold ActOut actF; rw [hm]; rfl
    rw [hm] at HM
    clear h hk hL hm
    go_enter Try.func11, Try.ntmps11
    go_wp2_with fail
    refine HM.mono ?_
    rintro e w1 ⟨rfl, B1⟩
    go_wp2_with fail
    go_ret2
    exact ⟨HF.out, B1⟩
  | true =>
    obtain ⟨m1, m2, m3⟩ := mayT_parts hm
    have HF : Hid (∀ b, b = actT (l.map h3) L now → ActOut (l.map h3) L now (.returned (.tuple #[.bool b, .int .i64 0]))) := fun b hb => by unfold ActOut actF; rw [hm, hb]; rfl
    have HK : Hid (∀ g1 g2 g3 c1 c2 c3, decide (0 < (keepF [⟨g1, c1, fun x => decide (x.f ≤ now)⟩, ⟨g2, c2, fun x => decide (now < x.t)⟩, ⟨g3, c3, fun x => (allF x.ms L).1⟩] l).length) = actT (l.map h3) L now) := fun g1 g2 g3 c1 c2 c3 => keep_act now m2 m1 g1 g2 g3 c1 c2 c3
    rw [hm] at HM
    clear hm m1 m2 m3
    have H1 := fun W => begun_new now W
    have H2 := fun W => notOver_new now W
    have H3 := fun W => asking_new ob nb cb W
    go_enter Try.func11, Try.ntmps11
    go_wp2_with fail
    refine HM.mono ?_
    rintro e w1 ⟨rfl, B1⟩
    go_wp2_with fail
    refine (H1 _).mono ?_
    rintro e w2 ⟨rfl, hw2⟩
    have B2 : Below w1.heap.size w1 w2 := by rw [hw2]; exact below_alloc _ _
    have c2 : w2.cell? ⟨w1.heap.size, 0, none⟩ = some (.int .i64 now) := by rw [hw2]; simp
    clear hw2
    go_wp2_with fail
    refine (H2 _).mono ?_
    rintro e w3 ⟨rfl, hw3⟩
    have B3 : Below w2.heap.size w2 w3 := by rw [hw3]; exact below_alloc _ _
    have c3 : w3.cell? ⟨w2.heap.size, 0, none⟩ = some (.int .i64 now) := by rw [hw3]; simp
    clear hw3
    go_wp2_with fail
    refine (H3 _).mono ?_
    rintro e w4 ⟨rfl, hw4⟩
    have B4 : Below w3.heap.size w3 w4 := by rw [hw4]; exact below_alloc _ _
    have c4 : w4.cell? ⟨w3.heap.size, 0, none⟩ = some (.slice ob nb cb) := by rw [hw4]; simp
    clear hw4
    have B14 : Below w.heap.size w w4 := B1.trans ((B2.mono B1.size).trans ((B3.mono (Nat.le_trans B1.size B2.size)).trans (B4.mono (Nat.le_trans B1.size (Nat.le_trans B2.size B3.size)))))
    have k2 := keepR B4 (keepR B3 c2)
    have k3 := keepR B4 c3
    have hs1 := B1.size
    generalize w1.heap.size = A1 at *
    generalize w2.heap.size = A2 at *
    generalize w3.heap.size = A3 at *
    have B5 := below_alloc w4 (.cells #[.func (.func 45) #[] #[.pointer (some ⟨A1, 0, none⟩)], .func (.func 39) #[] #[.pointer (some ⟨A2, 0, none⟩)], .func (.func 46) #[] #[.pointer (some ⟨A3, 0, none⟩)]] 41)
    have V5 := Vals.new w4 41 #[.func (.func 45) #[] #[.pointer (some ⟨A1, 0, none⟩)], .func (.func 39) #[] #[.pointer (some ⟨A2, 0, none⟩)], .func (.func 46) #[] #[.pointer (some ⟨A3, 0, none⟩)]]
    have B15 := B14.trans (B5.mono B14.size)
    generalize hw5 : w4.alloc (.cells #[.func (.func 45) #[] #[.pointer (some ⟨A1, 0, none⟩)], .func (.func 39) #[] #[.pointer (some ⟨A2, 0, none⟩)], .func (.func 46) #[] #[.pointer (some ⟨A3, 0, none⟩)]] 41) = w5 at *
    have HW5 := Lib.hid hw5
    have HMt := matching_any oa n cap l w4.heap.size 3 3 [⟨_, _, fun x => decide (x.f ≤ now)⟩, ⟨_, _, fun x => decide (now < x.t)⟩, ⟨_, _, fun x => (allF x.ms L).1⟩] w5 (h.below B15 (Nat.le_refl _)) hn rfl (Nat.le_refl _) (fun q hq => by
      simp only [List.mem_cons, List.not_mem_nil, or_false] at hq
      rcases hq with rfl | rfl | rfl
      · exact ⟨tells_begun w5 l A1 now (keepR B5 k2), enter_begun⟩
      · exact ⟨tells_notOver w5 l A2 now (keepR B5 k3), enter_notOver⟩
      · exact ⟨tells_asking w5 l (hk.below B15 (Nat.le_refl _)) A3 ob nb cb L (keepR B5 c4) (hL.below B15 (Nat.le_refl _)) hnb, enter_asking⟩) (fun i hi => by
      rcases (show i = 0 ∨ i = 1 ∨ i = 2 by omega) with rfl | rfl | rfl
      · exact V5.cell 0
      · exact V5.cell 1
      · exact V5.cell 2) (by omega)
    have HR := HF.out _ (HK.out 45 39 46 #[.pointer (some ⟨A1, 0, none⟩)] #[.pointer (some ⟨A2, 0, none⟩)] #[.pointer (some ⟨A3, 0, none⟩)])
    generalize keepF [⟨45, #[.pointer (some ⟨A1, 0, none⟩)], fun x => decide (x.f ≤ now)⟩, ⟨39, #[.pointer (some ⟨A2, 0, none⟩)], fun x => decide (now < x.t)⟩, ⟨46, #[.pointer (some ⟨A3, 0, none⟩)], fun x => (allF x.ms L).1⟩] l = l2 at *
    have HR2 := Lib.hid HR
    clear HR HF HK hw5 h hk hL V5 k2 k3 c2 c3 c4 B1 B2 B3 B4 B14 H1 H2 H3
    go_wp2_with fail
    rw [HW5.out]
    refine HMt.mono ?_
    rintro e w6 ⟨⟨v, rfl, own6⟩, B6⟩
    obtain ⟨oz, cz, rfl, hz, _⟩ := Hs.of_own rfl own6
    have B7 := B15.trans (B6.mono B15.size)
    clear hz own6 HMt
    generalize l2.length = r at *
    go_wp2_with fail
    go_ret2
    exact ⟨by simpa using HR2.out, B7⟩
end Go.Proofs.Ytkckdombcnifnaa
