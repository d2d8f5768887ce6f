/-
  The law's own: some hushes, and some labels.
-/
import Derived.Test.YtkckdombcnifnaaLawH
import Derived.Test.YtkckdombcnifnaaLabT
namespace Go.Proofs.Ytkckdombcnifnaa
open Go.RowKit Go.Shelf
set_option linter.unusedVariables false

/-- rows of unlike elements lie in unlike blocks -/
theorem own_other {w w' : World} {b1 b2 : Nat} {e1 e2 : TypeId} {s1 s2 : Nat} {v1 v2 : Value} {n1 n2 : Nat} {x1 x2 : List Value} (h1 : w.ownsRow b1 e1 s1 v1 n1 x1) (h2 : w.ownsRow b2 e2 s2 v2 n2 x2) (hne : e1 ≠ e2) (hg : w.grownBy w' v2.ownBlock) : w'.ownsRow b1 e1 s1 v1 n1 x1 := by
  refine h1.kept hg ?_
  rcases h1.2 with ⟨rfl, _⟩ | ⟨g, cap, cur, rfl, hb, hh, _⟩
  · exact .inl rfl
  · right
    rcases h2.2 with ⟨rfl, _⟩ | ⟨g2, cap2, cur2, rfl, hb2, hh2, _⟩
    · simp [Value.ownBlock]
    · intro e
      have e3 : g = g2 := by simpa [Value.ownBlock] using e
      subst e3
      rw [hh] at hh2
      simp at hh2
      exact hne hh2.2
/-- hushes of one's own, with their matchers -/
structure OwnH (w : World) (base : Nat) (v : Value) (rs : List H5) : Prop where
  own : w.ownsRow base 25 3 v rs.length (cellsH rs)
  part : ∀ x ∈ rs, PartH w base x
theorem PartH.keep {w w' : World} {base : Nat} {x : H5} (h : PartH w base x) (hB : Below w.heap.size w w') : PartH w' base x := ⟨own_keep h.1 hB, h.2⟩
theorem PartH.base {w : World} {base base' : Nat} {x : H5} (h : PartH w base x) (hb : base' ≤ base) : PartH w base' x := ⟨own_base h.1 hb, h.2⟩
theorem OwnH.keep {w w' : World} {base : Nat} {v : Value} {rs : List H5} (h : OwnH w base v rs) (hB : Below w.heap.size w w') : OwnH w' base v rs := ⟨own_keep h.own hB, fun x hx => (h.part x hx).keep hB⟩
theorem OwnH.base {w : World} {base base' : Nat} {v : Value} {rs : List H5} (h : OwnH w base v rs) (hb : base' ≤ base) : OwnH w base' v rs := ⟨own_base h.own hb, fun x hx => (h.part x hx).base hb⟩
theorem OwnH.set {w : World} {base : Nat} {v : Value} {rs : List H5} (h : OwnH w base v rs) {a : Addr} (ha : a.block < base) (u : Value) : OwnH (w.setCell a u) base v rs :=
  ⟨ownsRow_setCell_below h.own ha u, fun x hx => ⟨ownsRow_setCell_below (h.part x hx).1 ha u, (h.part x hx).2⟩⟩
theorem OwnH.nil (w : World) (base : Nat) : OwnH w base (.slice none 0 0) [] := ⟨World.ownsRow_nil _ _ _ _, fun x hx => by cases hx⟩
theorem OwnH.lies {w : World} {base : Nat} {v : Value} {rs : List H5} (h : OwnH w base v rs) : ∃ oa cap, v = .slice oa rs.length cap ∧ Hs w oa rs.length cap rs ∧ Lk w rs ∧ cap ≤ maxLen := by
  obtain ⟨oa, cap, e, hH, hm⟩ := Hs.of_own rfl h.own
  refine ⟨oa, cap, e, hH, fun x hx => ⟨(h.part x hx).ms, ?_⟩, hm⟩
  have := (h.part x hx).2.2
  omega
theorem OwnH.snoc {w w' : World} {base : Nat} {v v' : Value} {rs : List H5} (h : OwnH w base v rs) {y : H5} (hy : PartH w base y) (hown : w'.ownsRow base 25 3 v' (rs.length + 1) (cellsH rs ++ cH y)) (hg : w.grownBy w' v.ownBlock) : OwnH w' base v' (rs ++ [y]) := by
  refine ⟨by rw [cellsH_snoc, List.length_append]; exact hown, fun x hx => ?_⟩
  rcases List.mem_append.1 hx with hx | hx
  · exact ⟨own_other (h.part x hx).1 h.own (by decide) hg, (h.part x hx).2⟩
  · rw [List.mem_singleton] at hx
    subst hx
    exact ⟨own_other hy.1 h.own (by decide) hg, hy.2⟩
/-- their matchers lie there, as many as there may be -/
def LkB (w : World) (l : List H5) : Prop := ∀ x ∈ l, Ms w x.pa x.n x.c x.ms ∧ x.n ≤ 9223372036854775807
theorem LkB.at {w : World} {l : List H5} (h : LkB w l) (k : Nat) (hk : k < l.length) : Ms w (l.getD k zH).pa (l.getD k zH).n (l.getD k zH).c (l.getD k zH).ms ∧ (l.getD k zH).n ≤ 9223372036854775807 := by
  rw [getD_H l k hk]
  exact h _ (List.getElem_mem hk)
set_option maxRecDepth 100000 in
set_option maxHeartbeats 6400000 in
theorem few_any (oa : Option Addr) (n cap : Nat) (l : List H5) (w : World) (h : Hs w oa n cap l) (hk : LkB w l) (hn : n ≤ 9223372036854775807) :
    Calls Try.prog 7 #[.slice oa n cap] w fun e w' => (∃ v rs, e = .returned v ∧ OwnH w' w.heap.size v rs ∧ rs.map h3 = fewT (l.map h3)) ∧ Below w.heap.size w w' := by
  have hl := h.len
  have hr := h.room
  obtain ⟨u, hu, eu, hun, hu10⟩ := minN_of n 10
  change min (n : Int) 10 = (u : Int) at eu
  have HF : Hid (((l.take u).map h3).map cutT = fewT (l.map h3)) := by
    show _ = _
    unfold fewT
    rw [List.length_map, hl, ← hu, List.map_take]
  clear hu
  go_enter Try.func7, Try.ntmps7
  go_wp2_with fail
  clear eu
  go_loopw [3, 5, 12] (fun s3 _ s12 wr => ∃ (k : Nat) (rs : List H5), k ≤ u ∧ s12 = .int .i64 k ∧ Hid (OwnH wr w.heap.size s3 rs) ∧ Hid (rs.map h3 = ((l.take k).map h3).map cutT) ∧ Below w.heap.size w wr) (fun _ _ s12 _ => u - (intOf s12).toNat)
  case atStart => exact ⟨0, [], Nat.zero_le _, rfl, OwnH.nil _ _, by show _ = _; simp, Below.refl _ _⟩
  case round =>
    obtain ⟨k, rs, hku, rfl, HO, HE, hB⟩ := hrel
    have hsB := hB.size
    by_cases hlt : k < u
    · obtain ⟨g, o, rfl, c0, c1, c2⟩ := (h.below hB (Nat.le_refl _)).cell k (by omega)
      obtain ⟨hM, hMn⟩ := hk.at k (by omega)
      have HX := Lib.hid (takeH_next l k (by omega))
      have hkn : k < n := by omega
      generalize l.getD k zH = x at *
      have HXE : Hid (∀ y : H5, h3 y = cutT (h3 x) → (rs ++ [y]).map h3 = ((l.take (k + 1)).map h3).map cutT) := fun y hy => by
        rw [List.map_append, HE.out, HX.out, List.map_append, List.map_append, List.map_singleton, hy]
        rfl
      have hrl : rs.length = k := by
        have := congrArg List.length HE.out
        simp only [List.length_map, List.length_take] at this
        omega
      have BA := below_alloc wr (.cells (vH x) 25)
      have hBA := hB.trans (BA.mono hB.size)
      have HC := cut_any x _ (hM.below hBA (Nat.le_refl _)) (by omega)
      have HOA := Lib.hid (HO.out.keep BA)
      have hsA := BA.size
      obtain ⟨f, t, pa, m, c, ms⟩ := x
      dsimp only [aggH, vH] at *
      clear h hl hk hM HX HF BA HO
      go_wp2_with fail
      generalize wr.alloc (.cells #[.int .i64 f, .int .i64 t, .slice pa m c] 25) = w3 at *
      refine HC.mono ?_
      rintro e w4 ⟨⟨y, rfl, hy, hP⟩, B4⟩
      have HO4 := HOA.out.keep B4
      have hB4 := hBA.trans (B4.mono (Nat.le_trans hsB hsA))
      have hP4 := hP.base (Nat.le_trans hsB hsA)
      have BC := below_alloc w4 (.cells (vH y) 25)
      have HO5 := HO4.keep BC
      have hP5 := hP4.keep BC
      have hB5 := hB4.trans (BC.mono hB4.size)
      have hone := Hs.one w4 y
      have HY := Lib.hid (HXE.out y hy)
      have HO5' := Lib.hid HO5
      have HP5' := Lib.hid hP5
      have hs5 := hB5.size
      clear HC HOA HO4 hP hP4 B4 hB4 hBA BC HXE hy HO5 hP5 c0 c1 c2 HE
      obtain ⟨f', t', pa', m', c', ms'⟩ := y
      dsimp only [aggH, vH] at *
      go_wp2_with (first | (at_builtin; refine wpList_append_hs _ rfl (.tmp 16) (.tmp 19) rfl w.heap.size rfl HO5'.out.own rfl hone (by omega) hs5 ?_; intro v1 w6 own1 hg1; have B8 : Below w.heap.size w w6 := hB5.grown hg1 hs5 (fun r e => (HO5'.out.own.lt r e).1); have HO6 := Lib.hid (HO5'.out.snoc HP5'.out own1 hg1)))
      clear own1 hg1 hone HO5' HP5' hB5
      go_wp2_with fail
      go_roundw
      case rel => exact ⟨k + 1, _, by omega, by go_num, HO6.out, HY.out, B8⟩
      case measure => simp [intOf]; omega
    · obtain rfl : k = u := by omega
      have HZ : Hid (rs.map h3 = fewT (l.map h3)) := HE.out.trans HF.out
      clear HE HF h hk
      go_wp2_with fail
      go_ret
      exact ⟨⟨_, rs, rfl, HO.out, HZ.out⟩, hB⟩
set_option maxRecDepth 100000 in
set_option maxHeartbeats 800000 in
theorem some_any (oa : Option Addr) (n cap : Nat) (l : List L2) (w : World) (h : Ls w oa n cap l) :
    Calls Try.prog 9 #[.slice oa n cap] w fun e w' => e = .returned (.slice oa (min n 5) cap) ∧ w = w' := by
  have hr := h.room
  obtain ⟨u, hu, eu, hun, hu5⟩ := minN_of n 5
  change min (n : Int) 5 = (u : Int) at eu
  have HU : Hid (min n 5 = u) := hu.symm
  clear hu h
  go_enter Try.func9, Try.ntmps9
  go_wp2_with fail
  go_ret
  exact ⟨by rw [HU.out]; rfl, rfl⟩
theorem Ls.some {w : World} {oa : Option Addr} {n cap : Nat} {l : List L2} (h : Ls w oa n cap l) : Ls w oa (min n 5) cap (l.take (min n 5)) := h.take (Nat.min_le_left _ _)
theorem ShortL.take {l : List L2} (h : ShortL l) (k : Nat) : ShortL (l.take k) := fun j hj => by
  have : j < k := by rw [List.length_take] at hj; omega
  have e : (l.take k).getD j zL = l.getD j zL := by rw [List.getD_eq_getElem?_getD, List.getD_eq_getElem?_getD, List.getElem?_take_of_lt this]
  rw [e]
  exact h j (by rw [List.length_take] at hj; omega)
theorem fewT_mem {l : List T3} {x : T3} (h : x ∈ fewT l) : ∃ y ∈ l, x = cutT y := by
  obtain ⟨y, hy, e⟩ := List.mem_map.1 h
  exact ⟨y, List.mem_of_mem_take hy, e.symm⟩
theorem fewT_len (l : List T3) : (fewT l).length ≤ 10 := by unfold fewT; simp; omega
end Go.Proofs.Ytkckdombcnifnaa
