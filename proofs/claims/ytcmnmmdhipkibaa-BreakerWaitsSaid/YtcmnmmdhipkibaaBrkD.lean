/-
  Breakers: Told, where it settles a breaker.
-/
import Derived.Test.YtcmnmmdhipkibaaBrkC
namespace Go.Proofs.Ytcmnmmdhipkibaa
open Go.RowKit
set_option linter.unusedVariables false

namespace Brk
set_option maxHeartbeats 1600000 in
/-- a closed one that is told ok, or one too many that came to nothing -/
theorem told_settle (F O C now s u : Int) (ok : Bool) (w : World) (h : askB F O 0 C 0 now = true) (hs : s = setS ok) (hu : u = setU O now ok) (hc0 : 0 ≤ C) (hF : F ≤ 100) (hCF : C < F) (hc : ok = false → ¬ C + 1 < F) :
    Calls Try.prog 7 #[val F O 0 C 0, .int .i64 now, .bool ok] w fun e w' => e = .returned (.tuple #[val F O s 0 u, .int .i64 0]) ∧ Below w.heap.size w w' := by
  obtain ⟨hr, n0, n1⟩ := (ask_iff _ _ _ _ _ _).1 h
  obtain ⟨_, _, o1, o2, _⟩ := (right_iff _ _ _ _ _).1 hr
  have H := Lib.hid h
  have Hs := Lib.hid hs
  have Hu := Lib.hid hu
  clear h hr hs hu
  cases ok with
  | true =>
    clear hc
    go_enter Try.func7, Try.ntmps7
    go_wp2_with fail
    refine (may_is _ _ _ _ _ _ true _ H.out).mono ?_
    rintro e w1 ⟨rfl, hB⟩
    obtain ⟨hV, hR, hB'⟩ := two_vars hB
    clear hB
    obtain ⟨a0, a1, a2, a3, a4⟩ := hV.at
    go_wp2_with fail
    refine (settled_any _ _ _ _ _ _ s u true _ Hs.out Hu.out n0 n1 o1 o2).mono ?_
    rintro e w2 ⟨rfl, hB2⟩
    have hV2 := hV.keep hB2 (Nat.le_refl _)
    have hR2 := hR.keep hB2 (Nat.le_refl _)
    have hB3 := hB'.trans (hB2.mono hB'.size)
    clear a0 a1 a2 a3 a4 hB2 hB' hV hR
    obtain ⟨a0, a1, a2, a3, a4⟩ := hV2.at
    obtain ⟨b0, b1, b2, b3, b4⟩ := hV2.frees
    obtain ⟨r0, r1, r2, r3, r4⟩ := hR2.at
    obtain ⟨f0, f1, f2, f3, f4⟩ := hR2.frees
    have hR3 : Var (put w2 w.heap.size F O s 0 u) (w.heap.size + 1) 0 0 0 0 0 := (put_other _ _ _ _ _ _ _ _ (by omega)).trans hR2
    have hB4 := put_below hB3 (Nat.le_refl _) F O s 0 u
    go_wp2
    exact bodyPost_ret (ret2 rfl rfl rfl (hR3.put _ _ _ _ _)) rfl ⟨rfl, put_below hB4 (by omega) _ _ _ _ _⟩
  | false =>
    have hc := hc rfl
    go_enter Try.func7, Try.ntmps7
    go_wp2_with fail
    refine (may_is _ _ _ _ _ _ true _ H.out).mono ?_
    rintro e w1 ⟨rfl, hB⟩
    obtain ⟨hV, hR, hB'⟩ := two_vars hB
    clear hB
    obtain ⟨a0, a1, a2, a3, a4⟩ := hV.at
    go_wp2_with fail
    refine (settled_any _ _ _ _ _ _ s u false _ Hs.out Hu.out n0 n1 o1 o2).mono ?_
    rintro e w2 ⟨rfl, hB2⟩
    have hV2 := hV.keep hB2 (Nat.le_refl _)
    have hR2 := hR.keep hB2 (Nat.le_refl _)
    have hB3 := hB'.trans (hB2.mono hB'.size)
    clear a0 a1 a2 a3 a4 hB2 hB' hV hR
    obtain ⟨a0, a1, a2, a3, a4⟩ := hV2.at
    obtain ⟨b0, b1, b2, b3, b4⟩ := hV2.frees
    obtain ⟨r0, r1, r2, r3, r4⟩ := hR2.at
    obtain ⟨f0, f1, f2, f3, f4⟩ := hR2.frees
    have hR3 : Var (put w2 w.heap.size F O s 0 u) (w.heap.size + 1) 0 0 0 0 0 := (put_other _ _ _ _ _ _ _ _ (by omega)).trans hR2
    have hB4 := put_below hB3 (Nat.le_refl _) F O s 0 u
    go_wp2
    exact bodyPost_ret (ret2 rfl rfl rfl (hR3.put _ _ _ _ _)) rfl ⟨rfl, put_below hB4 (by omega) _ _ _ _ _⟩
set_option maxHeartbeats 1600000 in
/-- a half open one -/
theorem told_half (F O now s u : Int) (ok : Bool) (w : World) (h : askB F O 2 0 0 now = true) (hs : s = setS ok) (hu : u = setU O now ok) :
    Calls Try.prog 7 #[val F O 2 0 0, .int .i64 now, .bool ok] w fun e w' => e = .returned (.tuple #[val F O s 0 u, .int .i64 0]) ∧ Below w.heap.size w w' := by
  obtain ⟨hr, n0, n1⟩ := (ask_iff _ _ _ _ _ _).1 h
  obtain ⟨_, _, o1, o2, _⟩ := (right_iff _ _ _ _ _).1 hr
  have H := Lib.hid h
  have Hs := Lib.hid hs
  have Hu := Lib.hid hu
  clear h hr hs hu
  go_enter Try.func7, Try.ntmps7
  go_wp2_with fail
  refine (may_is _ _ _ _ _ _ true _ H.out).mono ?_
  rintro e w1 ⟨rfl, hB⟩
  obtain ⟨hV, hR, hB'⟩ := two_vars hB
  clear hB
  obtain ⟨a0, a1, a2, a3, a4⟩ := hV.at
  go_wp2_with fail
  refine (settled_any _ _ _ _ _ _ s u ok _ Hs.out Hu.out n0 n1 o1 o2).mono ?_
  rintro e w2 ⟨rfl, hB2⟩
  have hV2 := hV.keep hB2 (Nat.le_refl _)
  have hR2 := hR.keep hB2 (Nat.le_refl _)
  have hB3 := hB'.trans (hB2.mono hB'.size)
  clear a0 a1 a2 a3 a4 hB2 hB' hV hR
  obtain ⟨a0, a1, a2, a3, a4⟩ := hV2.at
  obtain ⟨b0, b1, b2, b3, b4⟩ := hV2.frees
  obtain ⟨r0, r1, r2, r3, r4⟩ := hR2.at
  obtain ⟨f0, f1, f2, f3, f4⟩ := hR2.frees
  have hR3 : Var (put w2 w.heap.size F O s 0 u) (w.heap.size + 1) 0 0 0 0 0 := (put_other _ _ _ _ _ _ _ _ (by omega)).trans hR2
  have hB4 := put_below hB3 (Nat.le_refl _) F O s 0 u
  go_wp2
  exact bodyPost_ret (ret2 rfl rfl rfl (hR3.put _ _ _ _ _)) rfl ⟨rfl, put_below hB4 (by omega) _ _ _ _ _⟩
end Brk
end Go.Proofs.Ytcmnmmdhipkibaa
