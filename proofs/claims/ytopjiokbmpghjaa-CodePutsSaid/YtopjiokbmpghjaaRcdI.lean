/-
  The document's own: the record of a text (Get).
-/
import Derived.Test.YtopjiokbmpghjaaRcdH
import Derived.Test.YtopjiokbmpghjaaRcdE
namespace Go.Proofs.Ytopjiokbmpghjaa
open Go.RowKit Go.Shelf
set_option linter.unusedVariables false
set_option linter.unusedSimpArgs false

theorem some_short {L : List UInt8} : ∀ (m i : Nat), ∀ x ∈ someN L m i, x.1.size ≤ L.length ∧ x.2.size ≤ L.length
  | 0, _, x, hx => by simp [someN] at hx
  | m + 1, i, x, hx => by
    rw [someN] at hx
    split at hx
    · rcases List.mem_cons.1 hx with rfl | hx
      · exact ⟨by rw [tx_size]; exact (wordN_le L i).2, by rw [tx_size]; exact (wordN_le L _).2⟩
      · exact some_short m _ x hx
    · cases hx
theorem asked_short {L : List UInt8} : ∀ (m i : Nat), ∀ x ∈ askedN L m i, x.2.1.size ≤ L.length ∧ x.2.2.size ≤ L.length
  | 0, _, x, hx => by simp [askedN] at hx
  | m + 1, i, x, hx => by
    rw [askedN] at hx
    split at hx
    · rcases List.mem_cons.1 hx with rfl | hx
      · exact ⟨by rw [tx_size]; exact (wordN_le L _).2, by rw [tx_size]; exact (wordN_le L _).2⟩
      · exact asked_short m _ x hx
    · cases hx
theorem shortL_of {l : List L2} {n : Nat} (hn : n ≤ 1000) (h : ∀ x ∈ l, x.1.size ≤ n ∧ x.2.size ≤ n) : ShortL l := fun k hk => by
  have := h (l.getD k zL) (by rw [getD_L l k hk]; exact List.getElem_mem _)
  omega
theorem shortM_of {l : List M3} {n : Nat} (hn : n ≤ 1000) (h : ∀ x ∈ l, x.2.1.size ≤ n ∧ x.2.2.size ≤ n) : ShortM l := fun k hk => by
  have := h (l.getD k zM) (by rw [getD_M l k hk]; exact List.getElem_mem _)
  omega
theorem RSh.parse (L : List UInt8) (hL : L.length ≤ 1000) : RSh (parseN L) := by
  unfold parseN
  split
  · exact ⟨shortL_of hL (some_short _ _), fun k hk => by simp at hk, fun k hk => by simp at hk⟩
  · split
    · exact ⟨fun k hk => by simp at hk, shortL_of hL (some_short _ _), fun k hk => by simp at hk⟩
    · split
      · exact ⟨fun k hk => by simp at hk, fun k hk => by simp at hk, shortM_of hL (asked_short _ _)⟩
      · exact ⟨fun k hk => by simp at hk, fun k hk => by simp at hk, fun k hk => by simp at hk⟩
theorem retG {fn : Func} {p u : Tmp} (h : fn.results = #[.cell p 29, .tmp u]) {tmps : Array Value} {w : World} {A : Nat} {z v1 v2 v3 : Value} {k f t : Int} {d : D6} (hp : tmps.getD p undef = .pointer (some ⟨A, 0, none⟩)) (hu : tmps.getD u undef = z)
    (hV : Vals w A 29 (recV k v1 d v2 f t v3)) : (results fn tmps).run Try.prog w = .ok (.tuple #[.agg (recV k v1 d v2 f t v3), z]) w := by
  rw [results_cell_tmp h, hp, hu]
  simp [Result.andThen, asAddr, run_loadVar_row w A _ 29 _ _ _ hV Try.underlying29 rfl (by kernel_rfl)]
abbrev zRV : Array Value := #[.int .i64 0, .slice none 0 0, .int .i64 0, .int .i64 0, .int .i64 0, .int .i64 0, .int .i64 0, .slice none 0 0, .int .i64 0, .int .i64 0, .slice none 0 0]
theorem Vals.eleven {w : World} {A : Nat} {T : TypeId} {x0 x1 x2 x3 x4 x5 x6 x7 x8 x9 x10 : Value} (h : Vals w A T #[x0, x1, x2, x3, x4, x5, x6, x7, x8, x9, x10]) (y0 y1 y2 y3 y4 y5 y6 y7 y8 y9 y10 : Value) :
    Vals (((((((((((w.setCell ⟨A, 0, none⟩ y0).setCell ⟨A, 1, none⟩ y1).setCell ⟨A, 2, none⟩ y2).setCell ⟨A, 3, none⟩ y3).setCell ⟨A, 4, none⟩ y4).setCell ⟨A, 5, none⟩ y5).setCell ⟨A, 6, none⟩ y6).setCell ⟨A, 7, none⟩ y7).setCell ⟨A, 8, none⟩ y8).setCell ⟨A, 9, none⟩ y9).setCell ⟨A, 10, none⟩ y10) A T #[y0, y1, y2, y3, y4, y5, y6, y7, y8, y9, y10] := by
  have := ((((((((((h.set 0 y0).set 1 y1).set 2 y2).set 3 y3).set 4 y4).set 5 y5).set 6 y6).set 7 y7).set 8 y8).set 9 y9).set 10 y10
  simpa using this
theorem below_eleven {B : Nat} {a w : World} (h : Below B a w) {A : Nat} (hA : B ≤ A) (y0 y1 y2 y3 y4 y5 y6 y7 y8 y9 y10 : Value) :
    Below B a (((((((((((w.setCell ⟨A, 0, none⟩ y0).setCell ⟨A, 1, none⟩ y1).setCell ⟨A, 2, none⟩ y2).setCell ⟨A, 3, none⟩ y3).setCell ⟨A, 4, none⟩ y4).setCell ⟨A, 5, none⟩ y5).setCell ⟨A, 6, none⟩ y6).setCell ⟨A, 7, none⟩ y7).setCell ⟨A, 8, none⟩ y8).setCell ⟨A, 9, none⟩ y9).setCell ⟨A, 10, none⟩ y10) :=
  ((((((((((h.setCell (p := ⟨A, 0, none⟩) hA y0).setCell (p := ⟨A, 1, none⟩) hA y1).setCell (p := ⟨A, 2, none⟩) hA y2).setCell (p := ⟨A, 3, none⟩) hA y3).setCell (p := ⟨A, 4, none⟩) hA y4).setCell (p := ⟨A, 5, none⟩) hA y5).setCell (p := ⟨A, 6, none⟩) hA y6).setCell (p := ⟨A, 7, none⟩) hA y7).setCell (p := ⟨A, 8, none⟩) hA y8).setCell (p := ⟨A, 9, none⟩) hA y9).setCell (p := ⟨A, 10, none⟩) hA y10
theorem lies_no_text {w : World} {oa : Option Addr} {n cap : Nat} {l : List L2} (h : Ls w oa n cap l) {E : Nat} {T : TypeId} {xs : Array Value} (hV : Vals w E T xs) (hx : ∀ (i : Nat) (s : ByteArray), xs[i]? ≠ some (Value.string s)) (j : Nat) (v : Value) : Ls (w.setCell ⟨E, j, none⟩ v) oa n cap l := by
  refine ⟨h.len, h.room, fun i hi => ?_⟩
  obtain ⟨g, o, e, h1, h2⟩ := h.cell i hi
  have hg : g ≠ E := by
    rintro rfl
    rw [hV.cell] at h1
    exact hx _ _ h1
  have hb := Below.heap_setCell w ⟨E, j, none⟩ v g hg
  exact ⟨g, o, e, (World.cell?_of_block hb).trans h1, (World.cell?_of_block hb).trans h2⟩
/-- but for block E nothing is turned -/
def OnlyAt (E : Nat) (w w' : World) : Prop := ∀ g, g ≠ E → w'.heap[g]? = w.heap[g]?
theorem OnlyAt.refl (E : Nat) (w : World) : OnlyAt E w w := fun _ _ => rfl
theorem OnlyAt.set {E : Nat} {w w' : World} (h : OnlyAt E w w') (i : Nat) (v : Value) : OnlyAt E w (w'.setCell ⟨E, i, none⟩ v) := fun g hg => (Below.heap_setCell w' ⟨E, i, none⟩ v g hg).trans (h g hg)
theorem OnlyAt.lies {E : Nat} {w w' : World} (ho : OnlyAt E w w') {oa : Option Addr} {n cap : Nat} {l : List L2} (h : Ls w oa n cap l) {T : TypeId} {xs : Array Value} (hV : Vals w E T xs) (hx : ∀ (i : Nat) (s : ByteArray), xs[i]? ≠ some (Value.string s)) : Ls w' oa n cap l := by
  refine ⟨h.len, h.room, fun i hi => ?_⟩
  obtain ⟨g, o, e, h1, h2⟩ := h.cell i hi
  have hg : g ≠ E := by
    rintro rfl
    rw [hV.cell] at h1
    exact hx _ _ h1
  exact ⟨g, o, e, (World.cell?_of_block (ho g hg)).trans h1, (World.cell?_of_block (ho g hg)).trans h2⟩
theorem OnlyAt.liesM {E : Nat} {w w' : World} (ho : OnlyAt E w w') {oa : Option Addr} {n cap : Nat} {l : List M3} (h : Ms w oa n cap l) {T : TypeId} {xs : Array Value} (hV : Vals w E T xs) (hx : ∀ (i : Nat) (s : ByteArray), xs[i]? ≠ some (Value.string s)) : Ms w' oa n cap l := by
  refine ⟨h.len, h.room, fun i hi => ?_⟩
  obtain ⟨g, o, e, h1, h2, h3⟩ := h.cell i hi
  have hg : g ≠ E := by
    rintro rfl
    rw [hV.cell] at h2
    exact hx _ _ h2
  exact ⟨g, o, e, (World.cell?_of_block (ho g hg)).trans h1, (World.cell?_of_block (ho g hg)).trans h2, (World.cell?_of_block (ho g hg)).trans h3⟩
theorem OnlyAt.rec {E : Nat} {w w' : World} (ho : OnlyAt E w w') {o1 : Option Addr} {n1 c1 : Nat} {o2 : Option Addr} {n2 c2 : Nat} {o3 : Option Addr} {n3 c3 : Nat} {r : Rc} (h : RAt w o1 n1 c1 o2 n2 c2 o3 n3 c3 r) {T : TypeId} {xs : Array Value} (hV : Vals w E T xs) (hx : ∀ (i : Nat) (s : ByteArray), xs[i]? ≠ some (Value.string s)) : RAt w' o1 n1 c1 o2 n2 c2 o3 n3 c3 r :=
  ⟨ho.lies h.ls hV hx, ho.lies h.l hV hx, ho.liesM h.ms hV hx, h.b1, h.b2, h.b3⟩
theorem rec_no_text (k : Int) (o1 : Option Addr) (n1 c1 : Nat) (rt pl tr du st : Int) (o2 : Option Addr) (n2 c2 : Nat) (f t : Int) (o3 : Option Addr) (n3 c3 : Nat) : ∀ (i : Nat) (s : ByteArray), (#[Value.int .i64 k, .slice o1 n1 c1, .int .i64 rt, .int .i64 pl, .int .i64 tr, .int .i64 du, .int .i64 st, .slice o2 n2 c2, .int .i64 f, .int .i64 t, .slice o3 n3 c3] : Array Value)[i]? ≠ some (Value.string s) := by
  intro i s h
  have hi : i < 11 := (Array.getElem?_eq_some_iff.1 h).1
  rcases (by omega : i = 0 ∨ i = 1 ∨ i = 2 ∨ i = 3 ∨ i = 4 ∨ i = 5 ∨ i = 6 ∨ i = 7 ∨ i = 8 ∨ i = 9 ∨ i = 10) with rfl | rfl | rfl | rfl | rfl | rfl | rfl | rfl | rfl | rfl | rfl <;> simp at h
/-- what Get tells -/
def RecOut (r : Rc) (w' : World) (P : Value → Prop) : Prop := ∃ o1 n1 c1 o2 n2 c2 o3 n3 c3, P (aggRc o1 n1 c1 o2 n2 c2 o3 n3 c3 r) ∧ RAt w' o1 n1 c1 o2 n2 c2 o3 n3 c3 r
theorem eleven_keep {w : World} {a : Addr} {v : Value} (h : w.cell? a = some v) {A : Nat} (hne : a.block ≠ A) (y0 y1 y2 y3 y4 y5 y6 y7 y8 y9 y10 : Value) :
    (((((((((((w.setCell ⟨A, 0, none⟩ y0).setCell ⟨A, 1, none⟩ y1).setCell ⟨A, 2, none⟩ y2).setCell ⟨A, 3, none⟩ y3).setCell ⟨A, 4, none⟩ y4).setCell ⟨A, 5, none⟩ y5).setCell ⟨A, 6, none⟩ y6).setCell ⟨A, 7, none⟩ y7).setCell ⟨A, 8, none⟩ y8).setCell ⟨A, 9, none⟩ y9).setCell ⟨A, 10, none⟩ y10).cell? a = some v := by
  have k := fun (w : World) (i : Nat) (u : Value) => World.cell?_of_block (w := w) (a := a) (Below.heap_setCell w ⟨A, i, none⟩ u a.block hne)
  rw [k, k, k, k, k, k, k, k, k, k, k, h]
theorem keepR {w w' : World} {a : Addr} {v : Value} (hB : Below w.heap.size w w') (h : w.cell? a = some v) : w'.cell? a = some v := (hB.cell (World.block_lt_of_cell? _ _ h)).trans h
theorem tx_beq (a b : List UInt8) : ((tx a).toList == (tx b).toList) = decide (a = b) := by
  rw [Bool.eq_iff_iff, beq_iff_eq, decide_eq_true_eq]
  constructor
  · intro h; exact tx_inj (toList_inj h)
  · rintro rfl; rfl
end Go.Proofs.Ytopjiokbmpghjaa
