/-
  Ahead of the laws' walks: what keeps in a class; worlds from one on; labels past stores into a duty's box; numbers cut short.
-/
import Derived.Test.YtaiacohnhhicpaaDutL
import Derived.Test.YtaiacohnhhicpaaCls
namespace Go.Proofs.Ytaiacohnhhicpaa
open Go.RowKit Go.Shelf
set_option linter.unusedVariables false

theorem Stable.dat (oa : Option Addr) (n cap : Nat) (d : D6) : Stable (fun w => DAt w oa n cap d) := fun _ _ h hB => h.below hB (Nat.le_refl _)
theorem Stable.lies (oa : Option Addr) (n cap : Nat) (l : List L2) : Stable (fun w => Ls w oa n cap l) := fun _ _ h hB => h.below hB (Nat.le_refl _)
theorem Stable.cfg (o1 : Option Addr) (n1 c1 : Nat) (o2 : Option Addr) (n2 c2 : Nat) (c : CfgL) : Stable (fun w => CfgAt w o1 n1 c1 o2 n2 c2 c) := fun _ _ h hB => h.below hB (Nat.le_refl _)
theorem lies_set {w : World} {oa : Option Addr} {n cap : Nat} {l : List L2} (h : Ls w oa n cap l) {E : Nat} {T : TypeId} {xs : Array Value} (hV : Vals w E T xs) (hx : ∀ (i : Nat) (s : ByteArray), xs[i]? ≠ some (Value.string s)) (j : Nat) (v : Value) : Ls (w.setCell ⟨E, j, none⟩ v) oa n cap l := by
  refine ⟨h.len, h.room, fun i hi => ?_⟩
  obtain ⟨g, o, e, h1, h2⟩ := h.cell i hi
  have hg : g ≠ E := by
    rintro rfl
    rw [hV.cell] at h1
    exact hx _ _ h1
  have hb := Below.heap_setCell w ⟨E, j, none⟩ v g hg
  exact ⟨g, o, e, (World.cell?_of_block hb).trans h1, (World.cell?_of_block hb).trans h2⟩
theorem duty_no_text (oa : Option Addr) (n cap : Nat) (a b c d e : Int) : ∀ (i : Nat) (s : ByteArray), (#[Value.slice oa n cap, .int .i64 a, .int .i64 b, .int .i64 c, .int .i64 d, .int .i64 e] : Array Value)[i]? ≠ some (Value.string s) := by
  intro i s h
  have hi : i < 6 := (Array.getElem?_eq_some_iff.1 h).1
  rcases (by omega : i = 0 ∨ i = 1 ∨ i = 2 ∨ i = 3 ∨ i = 4 ∨ i = 5) with rfl | rfl | rfl | rfl | rfl | rfl <;> simp at h
theorem wrap_cut (x k : Int) (hk : 0 < k) (hk2 : k ≤ 1099511627776) : 0 ≤ wrap64 ((IntKind.u64.wrap x).tmod k) ∧ wrap64 ((IntKind.u64.wrap x).tmod k) < k := by
  have h : 0 ≤ IntKind.u64.wrap x := by simp [IntKind.wrap, IntKind.bits, IntKind.signed]; omega
  rw [Int.tmod_eq_emod_of_nonneg h]
  have h1 := Int.emod_nonneg (IntKind.u64.wrap x) (show k ≠ 0 by omega)
  have h2 := Int.emod_lt_of_pos (IntKind.u64.wrap x) hk
  generalize IntKind.u64.wrap x % k = y at *
  unfold wrap64
  omega
/-- from a world on, at a block: what lies below is as it was -/
def From (B : Nat) (w0 wx : World) : Prop := B ≤ wx.heap.size ∧ Below B w0 wx
theorem Stable.from (B : Nat) (w0 : World) : Stable (From B w0) := fun _ _ h hB => ⟨Nat.le_trans h.1 hB.size, h.2.trans (hB.mono h.1)⟩
theorem From.set {B : Nat} {w0 wx : World} (h : From B w0 wx) {E : Nat} (hE : B ≤ E) (i : Nat) (v : Value) : From B w0 (wx.setCell ⟨E, i, none⟩ v) := ⟨by simpa using h.1, h.2.setCell (p := ⟨E, i, none⟩) hE v⟩
theorem From.six {B : Nat} {w0 wx : World} (h : From B w0 wx) {E : Nat} (hE : B ≤ E) (y0 y1 y2 y3 y4 y5 : Value) : From B w0 ((((((wx.setCell ⟨E, 0, none⟩ y0).setCell ⟨E, 1, none⟩ y1).setCell ⟨E, 2, none⟩ y2).setCell ⟨E, 3, none⟩ y3).setCell ⟨E, 4, none⟩ y4).setCell ⟨E, 5, none⟩ y5) :=
  (((((h.set hE 0 y0).set hE 1 y1).set hE 2 y2).set hE 3 y3).set hE 4 y4).set hE 5 y5
theorem lies_six {w : World} {oa : Option Addr} {n cap : Nat} {l : List L2} (h : Ls w oa n cap l) {E : Nat} {T : TypeId} {s : Value} {a b c d e : Int} {oz : Option Addr} {nz cz : Nat} (hs : s = .slice oz nz cz) (hV : Vals w E T #[s, .int .i64 a, .int .i64 b, .int .i64 c, .int .i64 d, .int .i64 e]) (ox : Option Addr) (nx cx : Nat) (a' b' c' d' e' : Int) :
    Ls ((((((w.setCell ⟨E, 0, none⟩ (.slice ox nx cx)).setCell ⟨E, 1, none⟩ (.int .i64 a')).setCell ⟨E, 2, none⟩ (.int .i64 b')).setCell ⟨E, 3, none⟩ (.int .i64 c')).setCell ⟨E, 4, none⟩ (.int .i64 d')).setCell ⟨E, 5, none⟩ (.int .i64 e')) oa n cap l := by
  subst hs
  have h0 := lies_set h hV (duty_no_text _ _ _ _ _ _ _ _) 0 (.slice ox nx cx)
  have V0 : Vals (w.setCell ⟨E, 0, none⟩ (.slice ox nx cx)) E T #[.slice ox nx cx, .int .i64 a, .int .i64 b, .int .i64 c, .int .i64 d, .int .i64 e] := by simpa using hV.set 0 (.slice ox nx cx)
  have h1 := lies_set h0 V0 (duty_no_text _ _ _ _ _ _ _ _) 1 (.int .i64 a')
  have V1 : Vals ((w.setCell ⟨E, 0, none⟩ (.slice ox nx cx)).setCell ⟨E, 1, none⟩ (.int .i64 a')) E T #[.slice ox nx cx, .int .i64 a', .int .i64 b, .int .i64 c, .int .i64 d, .int .i64 e] := by simpa using V0.set 1 (.int .i64 a')
  have h2 := lies_set h1 V1 (duty_no_text _ _ _ _ _ _ _ _) 2 (.int .i64 b')
  have V2 : Vals (((w.setCell ⟨E, 0, none⟩ (.slice ox nx cx)).setCell ⟨E, 1, none⟩ (.int .i64 a')).setCell ⟨E, 2, none⟩ (.int .i64 b')) E T #[.slice ox nx cx, .int .i64 a', .int .i64 b', .int .i64 c, .int .i64 d, .int .i64 e] := by simpa using V1.set 2 (.int .i64 b')
  have h3 := lies_set h2 V2 (duty_no_text _ _ _ _ _ _ _ _) 3 (.int .i64 c')
  have V3 : Vals ((((w.setCell ⟨E, 0, none⟩ (.slice ox nx cx)).setCell ⟨E, 1, none⟩ (.int .i64 a')).setCell ⟨E, 2, none⟩ (.int .i64 b')).setCell ⟨E, 3, none⟩ (.int .i64 c')) E T #[.slice ox nx cx, .int .i64 a', .int .i64 b', .int .i64 c', .int .i64 d, .int .i64 e] := by simpa using V2.set 3 (.int .i64 c')
  have h4 := lies_set h3 V3 (duty_no_text _ _ _ _ _ _ _ _) 4 (.int .i64 d')
  have V4 : Vals (((((w.setCell ⟨E, 0, none⟩ (.slice ox nx cx)).setCell ⟨E, 1, none⟩ (.int .i64 a')).setCell ⟨E, 2, none⟩ (.int .i64 b')).setCell ⟨E, 3, none⟩ (.int .i64 c')).setCell ⟨E, 4, none⟩ (.int .i64 d')) E T #[.slice ox nx cx, .int .i64 a', .int .i64 b', .int .i64 c', .int .i64 d', .int .i64 e] := by simpa using V3.set 4 (.int .i64 d')
  exact lies_set h4 V4 (duty_no_text _ _ _ _ _ _ _ _) 5 (.int .i64 e')
end Go.Proofs.Ytaiacohnhhicpaa
