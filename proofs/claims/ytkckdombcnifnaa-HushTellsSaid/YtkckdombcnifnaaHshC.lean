/-
  The functions that a hush is asked by: whether it is not over, has begun, asks for labels; and what is not so.
-/
import Derived.Test.YtkckdombcnifnaaHshB
namespace Go.Proofs.Ytkckdombcnifnaa
open Go.RowKit Go.Shelf
set_option linter.unusedVariables false

set_option maxHeartbeats 400000 in
theorem notOver_new (now : Int) (w : World) :
    Calls Try.prog 25 #[.int .i64 now] w fun e w' => e = .returned (.func (.func 39) #[] #[.pointer (some ⟨w.heap.size, 0, none⟩)]) ∧ w' = w.alloc (.cells #[.int .i64 now] 3) := by
  go_enter Try.func25, Try.ntmps25
  go_wp2_with fail
  go_ret
  exact ⟨rfl, rfl⟩
set_option maxHeartbeats 400000 in
theorem begun_new (now : Int) (w : World) :
    Calls Try.prog 29 #[.int .i64 now] w fun e w' => e = .returned (.func (.func 45) #[] #[.pointer (some ⟨w.heap.size, 0, none⟩)]) ∧ w' = w.alloc (.cells #[.int .i64 now] 3) := by
  go_enter Try.func29, Try.ntmps29
  go_wp2_with fail
  go_ret
  exact ⟨rfl, rfl⟩
set_option maxHeartbeats 400000 in
theorem asking_new (oa : Option Addr) (n cap : Nat) (w : World) :
    Calls Try.prog 30 #[.slice oa n cap] w fun e w' => e = .returned (.func (.func 46) #[] #[.pointer (some ⟨w.heap.size, 0, none⟩)]) ∧ w' = w.alloc (.cells #[.slice oa n cap] 26) := by
  go_enter Try.func30, Try.ntmps30
  go_wp2_with fail
  go_ret
  exact ⟨rfl, rfl⟩
set_option maxRecDepth 100000 in
set_option maxHeartbeats 1600000 in
theorem notOver_any (B : Nat) (now : Int) (x : H5) (w : World) (c : w.cell? ⟨B, 0, none⟩ = some (.int .i64 now)) :
    Calls Try.prog 39 #[aggH x, .pointer (some ⟨B, 0, none⟩)] w fun e w' => e = .returned (.bool (decide (now < x.t))) ∧ Below w.heap.size w w' := by
  obtain ⟨f, t, pa, n, k, ms⟩ := x
  have B1 := fun o => below_alloc w o
  have c' := fun o => keepR (B1 o) c
  dsimp only [aggH, vH]
  go_enter Try.func39, Try.ntmps39
  go_wp2_with fail
  go_ret
  exact ⟨retB (by simp), B1 _⟩
set_option maxRecDepth 100000 in
set_option maxHeartbeats 1600000 in
theorem begun_any (B : Nat) (now : Int) (x : H5) (w : World) (c : w.cell? ⟨B, 0, none⟩ = some (.int .i64 now)) :
    Calls Try.prog 45 #[aggH x, .pointer (some ⟨B, 0, none⟩)] w fun e w' => e = .returned (.bool (decide (x.f ≤ now))) ∧ Below w.heap.size w w' := by
  obtain ⟨f, t, pa, n, k, ms⟩ := x
  have B1 := fun o => below_alloc w o
  have c' := fun o => keepR (B1 o) c
  dsimp only [aggH, vH]
  go_enter Try.func45, Try.ntmps45
  go_wp2_with fail
  go_ret
  exact ⟨retB (by simp), B1 _⟩
set_option maxRecDepth 100000 in
set_option maxHeartbeats 1600000 in
theorem asking_any (B : Nat) (oa : Option Addr) (n cap : Nat) (L : List L2) (x : H5) (w : World) (c : w.cell? ⟨B, 0, none⟩ = some (.slice oa n cap)) (hL : Ls w oa n cap L) (hn : n ≤ 4611686018427387904) (hM : Ms w x.pa x.n x.c x.ms) (hx : x.n ≤ 3074457345618258602) :
    Calls Try.prog 46 #[aggH x, .pointer (some ⟨B, 0, none⟩)] w fun e w' => e = .returned (.bool (allF x.ms L).1) ∧ Below w.heap.size w w' := by
  obtain ⟨f, t, pa, m, k, ms⟩ := x
  dsimp only at hM hx
  have B1 := below_alloc w (.cells #[.int .i64 f, .int .i64 t, .slice pa m k] 25)
  have c' := keepR B1 c
  have HA := labAll_any pa m k ms oa n cap L _ (hM.below B1 (Nat.le_refl _)) (hL.below B1 (Nat.le_refl _)) hn hx
  unfold AllOut at HA
  generalize (allF ms L).1 = r at *
  generalize (allF ms L).2 = s at *
  clear hM hL c
  dsimp only [aggH, vH]
  go_enter Try.func46, Try.ntmps46
  go_wp2_with fail
  refine HA.mono ?_
  rintro e w2 ⟨rfl, B2⟩
  go_wp2_with fail
  go_ret
  exact ⟨rfl, B1.trans (B2.mono B1.size)⟩
theorem enter_notOver : ∀ args w, (callFunc 39 args).run Try.prog w = .ok (.enter 39 args) w := enters_of Try.func39 (by kernel_rfl) rfl
theorem enter_begun : ∀ args w, (callFunc 45 args).run Try.prog w = .ok (.enter 45 args) w := enters_of Try.func45 (by kernel_rfl) rfl
theorem enter_asking : ∀ args w, (callFunc 46 args).run Try.prog w = .ok (.enter 46 args) w := enters_of Try.func46 (by kernel_rfl) rfl
theorem enter_match : ∀ args w, (callFunc 42 args).run Try.prog w = .ok (.enter 42 args) w := enters_of Try.func42 (by kernel_rfl) rfl
theorem tells_notOver (w : World) (l : List H5) (B : Nat) (now : Int) (c : w.cell? ⟨B, 0, none⟩ = some (.int .i64 now)) : TellsH w l 39 #[.pointer (some ⟨B, 0, none⟩)] (fun x => decide (now < x.t)) := fun x b W _ hb hB => by
  subst hb
  exact notOver_any B now x W (keepR hB c)
theorem tells_begun (w : World) (l : List H5) (B : Nat) (now : Int) (c : w.cell? ⟨B, 0, none⟩ = some (.int .i64 now)) : TellsH w l 45 #[.pointer (some ⟨B, 0, none⟩)] (fun x => decide (x.f ≤ now)) := fun x b W _ hb hB => by
  subst hb
  exact begun_any B now x W (keepR hB c)
theorem tells_asking (w : World) (l : List H5) (hk : Lk w l) (B : Nat) (oa : Option Addr) (n cap : Nat) (L : List L2) (c : w.cell? ⟨B, 0, none⟩ = some (.slice oa n cap)) (hL : Ls w oa n cap L) (hn : n ≤ 4611686018427387904) : TellsH w l 46 #[.pointer (some ⟨B, 0, none⟩)] (fun x => (allF x.ms L).1) := fun x b W hx hb hB => by
  subst hb
  exact asking_any B oa n cap L x W (keepR hB c) (hL.below hB (Nat.le_refl _)) hn ((hk x hx).1.below hB (Nat.le_refl _)) (hk x hx).2
set_option maxRecDepth 100000 in
set_option maxHeartbeats 1600000 in
theorem match_any (C g : Nat) (cb : Array Value) (p : H5 → Bool) (l : List H5) (x : H5) (hx : x ∈ l) (V w : World) (hV : Below V.heap.size V w) (hp : TellsH V l g cb p) (eg : ∀ args w, (callFunc g args).run Try.prog w = .ok (.enter g args) w) (c : w.cell? ⟨C, 0, none⟩ = some (.func (.func g) #[] cb)) :
    Calls Try.prog 42 #[aggH x, .pointer (some ⟨C, 0, none⟩)] w fun e w' => e = .returned (.bool (!p x)) ∧ Below w.heap.size w w' := by
  have B1 := below_alloc w (.cells (vH x) 25)
  have c' := keepR B1 c
  have HT := hp x _ _ hx rfl (hV.trans (B1.mono hV.size))
  generalize p x = r at *
  clear hp c
  obtain ⟨f, t, pa, m, k, ms⟩ := x
  dsimp only [aggH, vH] at *
  go_enter Try.func42, Try.ntmps42
  go_wp2_with fail
  refine HT.mono ?_
  rintro e w2 ⟨rfl, B2⟩
  go_wp2_with fail
  go_ret
  exact ⟨rfl, B1.trans (B2.mono B1.size)⟩
theorem tells_match (V w : World) (hV : Below V.heap.size V w) (l : List H5) (C g : Nat) (cb : Array Value) (p : H5 → Bool) (hp : TellsH V l g cb p) (eg : ∀ args w, (callFunc g args).run Try.prog w = .ok (.enter g args) w) (c : w.cell? ⟨C, 0, none⟩ = some (.func (.func g) #[] cb)) :
    TellsH w l 42 #[.pointer (some ⟨C, 0, none⟩)] (fun x => !p x) := fun x b W hx hb hB => by
  subst hb
  exact match_any C g cb p l x hx V W (hV.trans (hB.mono hV.size)) hp eg (keepR hB c)
end Go.Proofs.Ytkckdombcnifnaa
