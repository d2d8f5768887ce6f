/-
  A config among the arguments, opened.
-/
import Derived.Test.YtaiacohnhhicpaaOpenLab
import Derived.Test.YtaiacohnhhicpaaRotM
import Derived.Test.YtaiacohnhhicpaaRfcF
namespace Go.Proofs.Ytaiacohnhhicpaa
open Go.ChangeShapes Go.WideShapes Go.ChangeAt Go.RowKit Go.Deep
set_option linter.unusedVariables false

theorem cellsMat : Try.prog.cellsOf 84 = 3 := by kernel_rfl
theorem cellsBack : Try.prog.cellsOf 45 = 3 := by kernel_rfl
theorem cellsRcv : Try.prog.cellsOf 47 = 9 := by kernel_rfl
theorem cellsRte : Try.prog.cellsOf 43 = 2 := by kernel_rfl
theorem cellsCfg : Try.prog.cellsOf 33 = 4 := by kernel_rfl
theorem cellsRcvs : Try.prog.cellsOf 30 = 1 := by kernel_rfl
theorem cellsRtes : Try.prog.cellsOf 31 = 1 := by kernel_rfl
theorem cellsInts : Try.prog.cellsOf 40 = 1 := by kernel_rfl
theorem cellsMats : Try.prog.cellsOf 41 = 1 := by kernel_rfl
theorem list3 {α : Type} (l : List α) (h : l.length = 3) : ∃ a b c, l = [a, b, c] := by
  match l, h with
  | [a, b, c], _ => exact ⟨a, b, c, rfl⟩
theorem list4 {α : Type} (l : List α) (h : l.length = 4) : ∃ a b c d, l = [a, b, c, d] := by
  match l, h with
  | [a, b, c, d], _ => exact ⟨a, b, c, d, rfl⟩
theorem list9 {α : Type} (l : List α) (h : l.length = 9) : ∃ a b c d e f g i j, l = [a, b, c, d, e, f, g, i, j] := by
  match l, h with
  | [a, b, c, d, e, f, g, i, j], _ => exact ⟨a, b, c, d, e, f, g, i, j, rfl⟩
theorem mat_cells {H : Type} {enc : TypeId × Value → H} {W : World} {m : Nat} {cs : List Value} {y : DataW H × List MemPlace} (hl : cs.length = 3) (h1 : DataW.trod enc Try.prog W 0 (fun _ => true) true m 84 cs = some y) :
    ∃ q a b, cs = [.int .i64 q, .string a, .string b] ∧ a.size ≤ maxLen ∧ b.size ≤ maxLen := by
  obtain ⟨c0, c1, c2, rfl⟩ := list3 cs hl
  obtain ⟨xs, n, _, hx, _, hlen, hg⟩ := DataW.trod_struct Try.underlying84 h1
  match xs, hlen with
  | [y0, y1, y2], _ =>
    have h0 : DataW.trod enc Try.prog W 0 (fun _ => true) true n 3 [c0] = some y0 := by simpa [cellsStr, cellsInt] using hg 0 _ rfl
    have h1 : DataW.trod enc Try.prog W 0 (fun _ => true) true n 9 [c1] = some y1 := by simpa [cellsStr, cellsInt] using hg 1 _ rfl
    have h2 : DataW.trod enc Try.prog W 0 (fun _ => true) true n 9 [c2] = some y2 := by simpa [cellsStr, cellsInt] using hg 2 _ rfl
    obtain ⟨q, e0, _⟩ := DataW.trod_int Try.underlying3 h0
    obtain ⟨a, e1, _, z1⟩ := DataW.trod_string Try.underlying9 h1
    obtain ⟨b, e2, _, z2⟩ := DataW.trod_string Try.underlying9 h2
    simp at e0 e1 e2
    subst e0 e1 e2
    exact ⟨q, a, b, rfl, z1, z2⟩
theorem back_cells {H : Type} {enc : TypeId × Value → H} {W : World} {m : Nat} {cs : List Value} {y : DataW H × List MemPlace} (hl : cs.length = 3) (h1 : DataW.trod enc Try.prog W 0 (fun _ => true) true m 45 cs = some y) :
    ∃ q a b, cs = [.int .i64 q, .int .i64 a, .int .i64 b] := by
  obtain ⟨c0, c1, c2, rfl⟩ := list3 cs hl
  obtain ⟨xs, n, _, hx, _, hlen, hg⟩ := DataW.trod_struct Try.underlying45 h1
  match xs, hlen with
  | [y0, y1, y2], _ =>
    have h0 : DataW.trod enc Try.prog W 0 (fun _ => true) true n 3 [c0] = some y0 := by simpa [cellsStr, cellsInt] using hg 0 _ rfl
    have h1 : DataW.trod enc Try.prog W 0 (fun _ => true) true n 3 [c1] = some y1 := by simpa [cellsStr, cellsInt] using hg 1 _ rfl
    have h2 : DataW.trod enc Try.prog W 0 (fun _ => true) true n 3 [c2] = some y2 := by simpa [cellsStr, cellsInt] using hg 2 _ rfl
    obtain ⟨q, e0, _⟩ := DataW.trod_int Try.underlying3 h0
    obtain ⟨a, e1, _⟩ := DataW.trod_int Try.underlying3 h1
    obtain ⟨b, e2, _⟩ := DataW.trod_int Try.underlying3 h2
    simp at e0 e1 e2
    subst e0 e1 e2
    exact ⟨q, a, b, rfl⟩
theorem rcv_cells {H : Type} {enc : TypeId × Value → H} {W : World} {m : Nat} {cs : List Value} {y : DataW H × List MemPlace} (hl : cs.length = 9) (h1 : DataW.trod enc Try.prog W 0 (fun _ => true) true m 47 cs = some y) :
    ∃ r : R9, cs = cR r ∧ r.nm.size ≤ maxLen := by
  obtain ⟨c0, c1, c2, c3, c4, c5, c6, c7, c8, rfl⟩ := list9 cs hl
  obtain ⟨xs, n, _, hx, _, hlen, hg⟩ := DataW.trod_struct Try.underlying47 h1
  match xs, hlen with
  | [y0, y1, y2, y3, y4, y5, y6], _ =>
    have h0 : DataW.trod enc Try.prog W 0 (fun _ => true) true n 9 [c0] = some y0 := by simpa [cellsStr, cellsInt, cellsBack] using hg 0 _ rfl
    have h1 : DataW.trod enc Try.prog W 0 (fun _ => true) true n 45 [c1, c2, c3] = some y1 := by simpa [cellsStr, cellsInt, cellsBack] using hg 1 _ rfl
    have h2 : DataW.trod enc Try.prog W 0 (fun _ => true) true n 3 [c4] = some y2 := by simpa [cellsStr, cellsInt, cellsBack] using hg 2 _ rfl
    have h3 : DataW.trod enc Try.prog W 0 (fun _ => true) true n 3 [c5] = some y3 := by simpa [cellsStr, cellsInt, cellsBack] using hg 3 _ rfl
    have h4 : DataW.trod enc Try.prog W 0 (fun _ => true) true n 3 [c6] = some y4 := by simpa [cellsStr, cellsInt, cellsBack] using hg 4 _ rfl
    have h5 : DataW.trod enc Try.prog W 0 (fun _ => true) true n 3 [c7] = some y5 := by simpa [cellsStr, cellsInt, cellsBack] using hg 5 _ rfl
    have h6 : DataW.trod enc Try.prog W 0 (fun _ => true) true n 3 [c8] = some y6 := by simpa [cellsStr, cellsInt, cellsBack] using hg 6 _ rfl
    obtain ⟨s, e0, _, z0⟩ := DataW.trod_string Try.underlying9 h0
    obtain ⟨a, b, c, e1⟩ := back_cells rfl h1
    obtain ⟨d, e2, _⟩ := DataW.trod_int Try.underlying3 h2
    obtain ⟨e, e3, _⟩ := DataW.trod_int Try.underlying3 h3
    obtain ⟨f, e4, _⟩ := DataW.trod_int Try.underlying3 h4
    obtain ⟨g, e5, _⟩ := DataW.trod_int Try.underlying3 h5
    obtain ⟨k, e6, _⟩ := DataW.trod_int Try.underlying3 h6
    simp at e0 e1 e2 e3 e4 e5 e6
    obtain ⟨rfl, rfl, rfl⟩ := e1
    subst e0 e2 e3 e4 e5 e6
    exact ⟨⟨s, a, b, c, d, e, f, g, k⟩, rfl, z0⟩
/-- a row of matchers -/
theorem open_mats_c {H : Type} {enc : TypeId × Value → H} {W : World} {m : Nat} {c : Value} {y : DataW H × List MemPlace} (h1 : DataW.trod enc Try.prog W 0 (fun _ => true) true m 41 [c] = some y) :
    ∃ oa n cap fs, c = .slice oa n cap ∧ Ms W oa n cap fs ∧ cap ≤ maxLen ∧ ShortM fs := by
  rcases open_slice Try.underlying41 h1 with ⟨hcs, _⟩ | ⟨a, len, cap, m', k, D, Pl, hcs, _, hl, hm, hmm, _, hi⟩
  · simp at hcs
    subst hcs
    exact ⟨none, 0, 0, [], rfl, Ms.nil W 0 none, by unfold maxLen; omega, fun k hk => absurd hk (by simp)⟩
  · simp at hcs
    subst hcs
    simp only [if_true] at hmm
    subst hmm
    have key : ∀ i, ∃ q : M3, i < m' → W.cell? (a.add (i * 3)) = some (.int .i64 q.1) ∧ W.cell? ((a.add (i * 3)).add 1) = some (.string q.2.1) ∧ W.cell? ((a.add (i * 3)).add 2) = some (.string q.2.2) ∧ q.2.1.size ≤ maxLen ∧ q.2.2.size ≤ maxLen := by
      intro i
      by_cases hk : i < m'
      · obtain ⟨cs', hc, ht⟩ := hi i hk
        rw [cellsMat] at hc
        obtain ⟨_, hcl, hat⟩ := World.cells?_some hc
        obtain ⟨u, x, z, rfl, z1, z2⟩ := mat_cells hcl ht
        refine ⟨(u, x, z), fun _ => ⟨?_, ?_, ?_, z1, z2⟩⟩
        · have := hat 0 (by omega)
          rw [show (a.add (i * 3)).add 0 = a.add (i * 3) from by unfold Addr.add; split <;> simp_all] at this
          simpa using this
        · simpa using hat 1 (by omega)
        · simpa using hat 2 (by omega)
      · exact ⟨zM, fun h => absurd h hk⟩
    obtain ⟨F, hF⟩ := Classical.axiomOfChoice key
    obtain ⟨b, off, spot⟩ := a
    have eF : ∀ i, i < len → ((List.range len).map F).getD i zM = F i := by
      intro i hi'
      rw [List.getD_eq_getElem?_getD, List.getElem?_map, List.getElem?_range hi']
      rfl
    have hsz : ShortM ((List.range len).map F) := by
      intro i hi'
      have hi2 : i < len := by simpa using hi'
      rw [eF i hi2]
      exact (hF i (by omega)).2.2.2
    refine ⟨_, len, m', (List.range len).map F, rfl, ⟨by simp, hl, fun i hi' => ?_⟩, hm, hsz⟩
    have hspot : spot = none := by
      have := World.cell?_spot (hF 0 (by omega)).1
      unfold Addr.add at this
      split at this <;> simp_all
    subst hspot
    rw [eF i hi']
    obtain ⟨h2, h3, h4, _, _⟩ := hF i (by omega)
    rw [add_at] at h2
    rw [add_at] at h3
    rw [add_at] at h3
    rw [add_at] at h4
    rw [add_at] at h4
    exact ⟨b, off, rfl, h2, h3, h4⟩
/-- a row of numbers -/
theorem open_nums_c {H : Type} {enc : TypeId × Value → H} {W : World} {m : Nat} {c : Value} {y : DataW H × List MemPlace} (h1 : DataW.trod enc Try.prog W 0 (fun _ => true) true m 40 [c] = some y) :
    ∃ oa n cap xs, c = .slice oa n cap ∧ Ns W oa n cap xs ∧ cap ≤ maxLen := by
  rcases open_ints Try.underlying40 Try.underlying3 cellsInt h1 with ⟨hcs, _⟩ | ⟨a, len, cap', zs, hcs, _, hl, hm, hz, _, hcell, hw⟩
  · simp at hcs
    subst hcs
    exact ⟨none, 0, 0, [], rfl, Ns.nil W, by unfold maxLen; omega⟩
  · simp at hcs
    subst hcs
    simp only [if_true] at hz
    obtain ⟨b, off, spot⟩ := a
    refine ⟨_, len, cap', zs.take len, rfl, ⟨by rw [List.length_take]; omega, hl, fun i hi => ?_⟩, hm⟩
    have hspot : spot = none := by simpa [Addr.add] using World.cell?_spot (hcell 0 (by omega))
    subst hspot
    refine ⟨b, off, rfl, ?_⟩
    rw [← add_at, hcell i (by omega), List.getD_eq_getElem?_getD, List.getD_eq_getElem?_getD, List.getElem?_take_of_lt hi]
/-- a row of receivers -/
theorem open_rcvs_c {H : Type} {enc : TypeId × Value → H} {W : World} {m : Nat} {c : Value} {y : DataW H × List MemPlace} (h1 : DataW.trod enc Try.prog W 0 (fun _ => true) true m 30 [c] = some y) :
    ∃ oa n cap fs, c = .slice oa n cap ∧ Rs W oa n cap fs ∧ cap ≤ maxLen ∧ ∀ i, i < fs.length → (fs.getD i zR).nm.size ≤ maxLen := by
  rcases open_slice Try.underlying30 h1 with ⟨hcs, _⟩ | ⟨a, len, cap, m', k, D, Pl, hcs, _, hl, hm, hmm, _, hi⟩
  · simp at hcs
    subst hcs
    exact ⟨none, 0, 0, [], rfl, Rs.nil W 0 none, by unfold maxLen; omega, fun k hk => absurd hk (by simp)⟩
  · simp at hcs
    subst hcs
    simp only [if_true] at hmm
    subst hmm
    have key : ∀ i, ∃ r : R9, i < m' → (∀ j v, (cR r)[j]? = some v → W.cell? ((a.add (i * 9)).add j) = some v) ∧ r.nm.size ≤ maxLen := by
      intro i
      by_cases hk : i < m'
      · obtain ⟨cs', hc, ht⟩ := hi i hk
        rw [cellsRcv] at hc
        obtain ⟨_, hcl, hat⟩ := World.cells?_some hc
        obtain ⟨r, rfl, z0⟩ := rcv_cells hcl ht
        exact ⟨r, fun _ => ⟨fun j v hj => (hat j (by have := (List.getElem?_eq_some_iff.1 hj).1; omega)).trans hj, z0⟩⟩
      · exact ⟨zR, fun h => absurd h hk⟩
    obtain ⟨F, hF⟩ := Classical.axiomOfChoice key
    obtain ⟨b, off, spot⟩ := a
    have eF : ∀ i, i < len → ((List.range len).map F).getD i zR = F i := by
      intro i hi'
      rw [List.getD_eq_getElem?_getD, List.getElem?_map, List.getElem?_range hi']
      rfl
    have hsz : ∀ i, i < ((List.range len).map F).length → (((List.range len).map F).getD i zR).nm.size ≤ maxLen := by
      intro i hi'
      have hi2 : i < len := by simpa using hi'
      rw [eF i hi2]
      exact (hF i (by omega)).2
    refine ⟨_, len, m', (List.range len).map F, rfl, ⟨by simp, hl, fun i hi' => ?_⟩, hm, hsz⟩
    have hspot : spot = none := by
      have := World.cell?_spot ((hF 0 (by omega)).1 0 _ rfl)
      unfold Addr.add at this
      split at this <;> simp_all
    subst hspot
    rw [eF i hi']
    refine ⟨b, off, rfl, fun j v hj => ?_⟩
    have := (hF i (by omega)).1 j v hj
    rw [add_at, add_at] at this
    exact this
theorem rte_cells {H : Type} {enc : TypeId × Value → H} {W : World} {m : Nat} {cs : List Value} {y : DataW H × List MemPlace} (hl : cs.length = 2) (h1 : DataW.trod enc Try.prog W 0 (fun _ => true) true m 43 cs = some y) :
    ∃ pa n1 c1 pb n2 c2 xs ms, cs = [.slice pa n1 c1, .slice pb n2 c2] ∧ Ns W pa n1 c1 xs ∧ c1 ≤ maxLen ∧ Ms W pb n2 c2 ms ∧ c2 ≤ maxLen ∧ ShortM ms := by
  obtain ⟨c0, c1, rfl⟩ := list2 cs hl
  obtain ⟨xs, n, _, hx, _, hlen, hg⟩ := DataW.trod_struct Try.underlying43 h1
  match xs, hlen with
  | [y0, y1], _ =>
    have g0 : DataW.trod enc Try.prog W 0 (fun _ => true) true n 40 [c0] = some y0 := by simpa [cellsInts, cellsMats] using hg 0 _ rfl
    have g1 : DataW.trod enc Try.prog W 0 (fun _ => true) true n 41 [c1] = some y1 := by simpa [cellsInts, cellsMats] using hg 1 _ rfl
    obtain ⟨pa, n1, k1, zs, rfl, hN, b1⟩ := open_nums_c g0
    obtain ⟨pb, n2, k2, ms, rfl, hM, b2, hS⟩ := open_mats_c g1
    exact ⟨pa, n1, k1, pb, n2, k2, zs, ms, rfl, hN, b1, hM, b2, hS⟩
/-- a row of routes -/
theorem open_rtes_c {H : Type} {enc : TypeId × Value → H} {W : World} {m : Nat} {c : Value} {y : DataW H × List MemPlace} (h1 : DataW.trod enc Try.prog W 0 (fun _ => true) true m 31 [c] = some y) :
    ∃ oa n cap fs, c = .slice oa n cap ∧ Qs W oa n cap fs ∧ cap ≤ maxLen ∧ ∀ i, i < n → (fs.getD i zT).1.length ≤ maxLen ∧ (fs.getD i zT).2.length ≤ maxLen ∧ ShortM (fs.getD i zT).2 := by
  rcases open_slice Try.underlying31 h1 with ⟨hcs, _⟩ | ⟨a, len, cap, m', k, D, Pl, hcs, _, hl, hm, hmm, _, hi⟩
  · simp at hcs
    subst hcs
    exact ⟨none, 0, 0, [], rfl, Qs.nil W 0 none, by unfold maxLen; omega, fun i hi => absurd hi (by omega)⟩
  · simp at hcs
    subst hcs
    simp only [if_true] at hmm
    subst hmm
    have key : ∀ i, ∃ r : T2, i < m' → ∃ pa n1 c1 pb n2 c2, W.cell? (a.add (i * 2)) = some (.slice pa n1 c1) ∧ W.cell? ((a.add (i * 2)).add 1) = some (.slice pb n2 c2) ∧ Ns W pa n1 c1 r.1 ∧ c1 ≤ maxLen ∧ Ms W pb n2 c2 r.2 ∧ c2 ≤ maxLen ∧ ShortM r.2 := by
      intro i
      by_cases hk : i < m'
      · obtain ⟨cs', hc, ht⟩ := hi i hk
        rw [cellsRte] at hc
        obtain ⟨_, hcl, hat⟩ := World.cells?_some hc
        obtain ⟨pa, n1, c1, pb, n2, c2, xs, ms, rfl, hN, b1, hM, b2, hS⟩ := rte_cells hcl ht
        refine ⟨(xs, ms), fun _ => ⟨pa, n1, c1, pb, n2, c2, ?_, ?_, hN, b1, hM, b2, hS⟩⟩
        · have := hat 0 (by omega)
          rw [show (a.add (i * 2)).add 0 = a.add (i * 2) from by unfold Addr.add; split <;> simp_all] at this
          simpa using this
        · simpa using hat 1 (by omega)
      · exact ⟨zT, fun h => absurd h hk⟩
    obtain ⟨F, hF⟩ := Classical.axiomOfChoice key
    obtain ⟨b, off, spot⟩ := a
    have e : ∀ i, i < len → ((List.range len).map F).getD i zT = F i := by
      intro i hi'
      rw [List.getD_eq_getElem?_getD, List.getElem?_map, List.getElem?_range hi']
      rfl
    refine ⟨_, len, m', (List.range len).map F, rfl, ⟨by simp, hl, fun i hi' => ?_⟩, hm, fun i hi' => ?_⟩
    · have hspot : spot = none := by
        obtain ⟨pa, n1, c1, pb, n2, c2, h2, _⟩ := hF 0 (by omega)
        have := World.cell?_spot h2
        unfold Addr.add at this
        split at this <;> simp_all
      subst hspot
      rw [e i hi']
      obtain ⟨pa, n1, c1, pb, n2, c2, h2, h3, hN, _, hM, _⟩ := hF i (by omega)
      rw [add_at] at h2
      rw [add_at] at h3
      rw [add_at] at h3
      exact ⟨b, off, pa, n1, c1, pb, n2, c2, rfl, h2, h3, hN, hM⟩
    · rw [e i hi']
      obtain ⟨pa, n1, c1, pb, n2, c2, _, _, hN, b1, hM, b2, hS⟩ := hF i (by omega)
      have := hN.len
      have := hN.room
      have := hM.len
      have := hM.room
      exact ⟨by omega, by omega, hS⟩
set_option maxRecDepth 100000 in
theorem open_cfg {H : Type} {enc : TypeId × Value → H} {W : World} {base : Nat} {v : Value} {d : DataW H} {p : List MemPlace} (hv : Value.okWide Try.prog W .any base 33 v) (h : DataW.Trod enc Try.prog W 0 (fun _ => true) true 33 v d p) :
    ∃ (c : CfgL) (o1 : Option Addr) (n1 c1 : Nat) (o2 : Option Addr) (n2 c2 : Nat), v = .agg (cfgV (.slice o1 n1 c1) (.slice o2 n2 c2) c.2.2.1 c.2.2.2) ∧ CfgAt W o1 n1 c1 o2 n2 c2 c := by
  obtain ⟨cs, rfl, hsz⟩ := okWide_struct Try.underlying33 hv
  rw [cellsCfg] at hsz
  obtain ⟨l⟩ := cs
  obtain ⟨c0, c1, c2, c3, rfl⟩ := list4 l (by simpa using hsz)
  obtain ⟨fuel, hf⟩ := h
  obtain ⟨xs, n, _, hx, _, hlen, hg⟩ := DataW.trod_struct Try.underlying33 hf
  match xs, hlen with
  | [y0, y1, y2, y3], _ =>
    have h0 : DataW.trod enc Try.prog W 0 (fun _ => true) true n 30 [c0] = some y0 := by simpa [Value.cells, cellsInt, cellsRcvs, cellsRtes] using hg 0 _ rfl
    have h1 : DataW.trod enc Try.prog W 0 (fun _ => true) true n 31 [c1] = some y1 := by simpa [Value.cells, cellsInt, cellsRcvs, cellsRtes] using hg 1 _ rfl
    have h2 : DataW.trod enc Try.prog W 0 (fun _ => true) true n 3 [c2] = some y2 := by simpa [Value.cells, cellsInt, cellsRcvs, cellsRtes] using hg 2 _ rfl
    have h3 : DataW.trod enc Try.prog W 0 (fun _ => true) true n 3 [c3] = some y3 := by simpa [Value.cells, cellsInt, cellsRcvs, cellsRtes] using hg 3 _ rfl
    obtain ⟨o1, n1, k1, rs, rfl, hR, b1, hz⟩ := open_rcvs_c h0
    obtain ⟨o2, n2, k2, ts, rfl, hQ, b2, hb⟩ := open_rtes_c h1
    obtain ⟨q, e2, _⟩ := DataW.trod_int Try.underlying3 h2
    obtain ⟨u, e3, _⟩ := DataW.trod_int Try.underlying3 h3
    simp at e2 e3
    subst e2 e3
    exact ⟨(rs, ts, q, u), o1, n1, k1, o2, n2, k2, rfl, ⟨hR, hQ, b1, b2, hz, fun i hi => hb i (by rw [← hQ.len]; exact hi)⟩⟩
end Go.Proofs.Ytaiacohnhhicpaa
