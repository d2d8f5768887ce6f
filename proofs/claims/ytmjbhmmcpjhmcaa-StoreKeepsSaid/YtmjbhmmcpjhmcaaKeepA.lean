/-
  For StoreKeeps: rows of faults that the law makes; one row copied behind an empty one; what an act does to a store on whose disk just these records stand.
-/
import Derived.Test.YtmjbhmmcpjhmcaaLogY
import Derived.Test.YtmjbhmmcpjhmcaaLogZ
import Derived.Test.YtmjbhmmcpjhmcaaOwn4
namespace Go.Proofs.Ytmjbhmmcpjhmcaa
open Go.RowKit
set_option linter.unusedVariables false

theorem tmod_b (x n : Int) (h : 0 < n) : -n < x.tmod n ∧ x.tmod n < n := by
  have h1 := Int.tmod_lt_of_pos x h
  have h2 := Int.tmod_lt_of_pos (-x) h
  rw [Int.neg_tmod] at h2
  omega
/-- faults as cells -/
def ftCells : List (Int × Int) → List Value
  | [] => []
  | q :: l => .int .i64 q.1 :: .int .i64 q.2 :: ftCells l
theorem ft_append (a b : List (Int × Int)) : ftCells (a ++ b) = ftCells a ++ ftCells b := by
  induction a with
  | nil => rfl
  | cons q r ih => show _ :: _ :: ftCells (r ++ b) = _; rw [ih]; rfl
theorem ft_at (a : List (Int × Int)) (i : Nat) (h : i < a.length) : (ftCells a)[i * 2]? = some (.int .i64 (a.getD i (0, 0)).1) ∧ (ftCells a)[i * 2 + 1]? = some (.int .i64 (a.getD i (0, 0)).2) := by
  induction a generalizing i with
  | nil => exact absurd h (by simp)
  | cons q r ih =>
    unfold ftCells
    cases i with
    | zero => exact ⟨rfl, rfl⟩
    | succ i =>
      have := ih i (by simpa using h)
      rw [show (i + 1) * 2 = i * 2 + 2 by omega]
      exact this
theorem FRd.of_own {w : World} {base : Nat} {v : Value} {n : Nat} {fs : List (Int × Int)} (hl : fs.length = n) (h : w.ownsRow base 44 2 v n (ftCells fs)) :
    ∃ oa cap, v = .slice oa n cap ∧ FRd w oa n cap fs := by
  rcases h.2 with ⟨rfl, rfl⟩ | ⟨g, cap, cur, rfl, hb, hg, hnc, _, hcs, htk⟩
  · exact ⟨none, 0, rfl, ⟨hl, Nat.le_refl _, fun i hi => absurd hi (by omega)⟩⟩
  · refine ⟨_, cap, rfl, hl, hnc, fun i hi => ⟨g, 0, rfl, ?_, ?_⟩⟩
    · have := (ft_at fs i (by omega)).1
      rw [← htk, List.getElem?_take, if_pos (by omega)] at this
      rw [Nat.zero_add, cell_of_row w g (i * 2) cur _ _ hg]
      simpa using this
    · have := (ft_at fs i (by omega)).2
      rw [← htk, List.getElem?_take, if_pos (by omega)] at this
      rw [Nat.zero_add, cell_of_row w g (i * 2 + 1) cur _ _ hg]
      simpa using this
theorem infoFault : (Try.prog.info? 44).map (fun i => (i.zero, i.size, i.bytes)) = some (some (.agg #[.int .i64 0, .int .i64 0]), 2, 16) := by kernel_rfl
theorem ft_cells (x y : Int) : ∀ u ∈ [Value.int .i64 x, Value.int .i64 y], u.oneCell' = true := by
  intro u hu
  simp at hu
  rcases hu with rfl | rfl <;> rfl
theorem grow_two {B : Nat} {w wr w1 : World} {v : Value} {k : Nat} {xs : List Value} {o : Obj} (hown : wr.ownsRow B 44 2 v k xs) (hB : Below B w wr) (hS : B ≤ wr.heap.size) (hgrow : (wr.alloc o).grownBy w1 v.ownBlock) : Below B w w1 ∧ B ≤ w1.heap.size := by
  have hlt := hown.lt
  have hsz : (wr.alloc o).heap.size = wr.heap.size + 1 := by simp
  refine ⟨(hB.alloc (by omega) o).grown hgrow (by omega) (fun g hg => by have := hlt g hg; omega), ?_⟩
  have := hgrow.size
  omega
/-- the law's own fault, of any -/
def fixF (f : Int × Int) : Int × Int := ((f.1.tmod 3 + 3) % 3, (f.2.tmod 129 + 129) % 129)
theorem fix_ok (f : Int × Int) : faultB (fixF f) = true := by
  rw [fault_iff]
  unfold fixF
  dsimp only
  omega
theorem map_takeF (l : List (Int × Int)) (k : Nat) (h : k < l.length) : (l.map fixF).take (k + 1) = (l.map fixF).take k ++ [fixF (l.getD k (0, 0))] := by
  have h' : k < (l.map fixF).length := by rw [List.length_map]; exact h
  rw [List.take_succ_eq_append_getElem h', List.getD_eq_getElem?_getD, List.getElem?_eq_getElem h, List.getElem_map]
  rfl
set_option maxHeartbeats 800000 in
theorem lfault_any (f : Int × Int) (w : World) :
    Calls Try.prog 30 #[.agg #[.int .i64 f.1, .int .i64 f.2]] w fun e w' => e = .returned (.agg #[.int .i64 (fixF f).1, .int .i64 (fixF f).2]) ∧ Below w.heap.size w w' := by
  obtain ⟨a1, a2⟩ := tmod_b f.1 3 (by omega)
  obtain ⟨b1, b2⟩ := tmod_b f.2 129 (by omega)
  have E1 : Hid ((fixF f).1 = (f.1.tmod 3 + 3) % 3) := rfl
  have E2 : Hid ((fixF f).2 = (f.2.tmod 129 + 129) % 129) := rfl
  generalize (fixF f).1 = r1 at *
  generalize (fixF f).2 = r2 at *
  generalize f.1 = x at *
  generalize f.2 = y at *
  go_enter Try.func30, Try.ntmps30
  go_wp2
  generalize x.tmod 3 = p at *
  generalize y.tmod 129 = q at *
  refine bodyPost_ret (ret_fault rfl rfl (a := .int .i64 ((p + 3) % 3)) (b := .int .i64 ((q + 129) % 129)) ?_ ?_) rfl ⟨?_, ?_⟩
  · simp
  · simp
  · rw [E1.out, E2.out]
  · exact (below_alloc w _).alloc (by simp) _
/-- append of no cell -/
theorem run_append_zero {P : Program} (w : World) (t ty e : TypeId) (i : TypeInfo) (ht : P.underlying t = some (.slice e)) (hi : P.info? e = some i) (ad : Addr) (n cap c : Nat) (h : n ≤ cap) :
    (Builtin.append_ #[t, t] ty #[.slice (some ad) n cap, .slice none 0 c]).run P w = .ok (.slice (some ad) n cap) w := by
  simp [Builtin.append_, run_underlying ht, sizeOf, typeInfo, hi, Builtin.lenOf, Builtin.firstCells, h, storeCells]
/-- a row of texts, nil or not, behind an empty row of one's own -/
theorem wpList_append_rd (w : World) {ops : Array Oper} {rest : List Oper} {o : Oper} {a : Act} {Q : Exit → Act → World → Prop} (hg : o.guard = none) (s x : Operand) (hop : o.op = Op.call { callee := Callee.builtin Builtin.append, args := #[s, x], argTypes := #[22, 22] })
    {i0 : TypeInfo} (hi : Try.prog.info? 9 = some i0) (hz0 : i0.zero = some (.string ⟨#[]⟩)) (hz1 : i0.size = 1) (hz2 : i0.bytes = 16) {base b : Nat} (hs : a.eval s = .slice (some ⟨b, 0, none⟩) 0 0) (hown : w.ownsRow base 9 1 (.slice (some ⟨b, 0, none⟩) 0 0) 0 [])
    {ox : Option Addr} {m c : Nat} {xs : List ByteArray} (hx : a.eval x = .slice ox m c) (hR : Rd w ox m c xs) (hm : m ≤ 1000) (hbase : base ≤ w.heap.size)
    (h : ∀ v' w', w'.ownsRow base 9 1 v' m (strCells xs) → w.grownBy w' (some b) → wpList Try.prog ops Q rest (a.put o.dst v') w') : wpList Try.prog ops Q (o :: rest) a w := by
  cases ox with
  | none =>
    have hm0 : m = 0 := by
      rcases Nat.eq_zero_or_pos m with h0 | h0
      · exact h0
      · obtain ⟨g, hg', _⟩ := hR.cell 0 h0
        cases hg'
    subst hm0
    have hxs : xs = [] := List.eq_nil_of_length_eq_zero hR.len
    subst hxs
    refine wpList_plain hg fun K hK => ?_
    have hrun := run_append_zero (P := Try.prog) w 22 o.type 9 i0 Try.underlying22 hi ⟨b, 0, none⟩ 0 0 c (Nat.le_refl _)
    unfold Oper.wp
    simp [execOp, hop, resolve, invoke, builtin, hs, hx, hrun, Result.andThen]
    exact hK _ _ (h _ _ hown (World.grownBy.refl w _))
  | some ad =>
    refine wpList_append_own _ hg s x 22 hop base 9 i0 (.string ⟨#[]⟩) 1 16 Try.underlying22 hi hz0 hz1 hz2 rfl (by decide) _ _ _ hs hown ad m c (strCells xs) hx (by rw [strCells_length, hR.len, Nat.mul_one]) ?_ ?_ (by unfold maxLen; omega) (by omega) hbase ?_
    · intro j u hj
      have hjl : j < m := by have h1 := (List.getElem?_eq_some_iff.1 hj).1; rw [strCells_length, hR.len] at h1; exact h1
      obtain ⟨g, hg', hc⟩ := hR.cell j hjl
      cases hg'
      rw [add_at, Nat.zero_add, hc, ← strCells_at xs j (by rw [hR.len]; exact hjl), hj]
    · intro u hu
      unfold strCells at hu
      obtain ⟨q, _, rfl⟩ := List.mem_map.1 hu
      rfl
    · intro v' w' h1 h2 _
      rw [Nat.zero_add, List.nil_append] at h1
      exact h v' w' h1 h2
/-- what an act did -/
def Did (S : St) (have_ nx : List ByteArray) (Sn : St) (bad : Int) : Prop :=
  (bad = 0 ∧ Holds Sn nx) ∨ (bad = 8 ∧ Holds Sn have_ ∧ Sn.g = S.g ∧ Sn.u = S.u) ∨ (bad = 9 ∧ Sn.d = true ∧ ∃ g t, Inv Sn.ss g t have_ ∨ Inv Sn.ss g t nx)
theorem did_append {S : St} {l : List ByteArray} (H : Holds S l) {p : ByteArray} (hp : p.size ≤ 96) {f : Int × Int} (hf : faultB f = true) : appW S p f = 5 ∨ Did S l (l ++ [p]) (appS S p f) (appW S p f) := by
  rcases H.append hp hf with h | ⟨h1, h2⟩ | ⟨h1, h2, h3, h4⟩ | ⟨h1, h2, h3⟩
  · exact Or.inl h
  · exact Or.inr (Or.inl ⟨h1, h2⟩)
  · exact Or.inr (Or.inr (Or.inl ⟨h1, h2, h3, h4⟩))
  · exact Or.inr (Or.inr (Or.inr ⟨h1, h2, _, _, h3⟩))
theorem did_turn {S : St} {l : List ByteArray} (H : Holds S l) {m : List ByteArray} (hm : ∀ p ∈ m, p.size ≤ 96) {fs : List (Int × Int)} (hf : ∀ f ∈ fs, faultB f = true) : turnW S m fs = 5 ∨ Did S l m (turnS S m fs) (turnW S m fs) := by
  rcases H.turn hm hf with h | ⟨h1, h2⟩ | ⟨h1, h2, h3, h4⟩ | ⟨h1, h2, h3⟩
  · exact Or.inl h
  · exact Or.inr (Or.inl ⟨h1, h2⟩)
  · exact Or.inr (Or.inr (Or.inl ⟨h1, h2, h3, h4⟩))
  · rcases h3 with h3 | h3
    · exact Or.inr (Or.inr (Or.inr ⟨h1, h2, _, _, Or.inl h3⟩))
    · exact Or.inr (Or.inr (Or.inr ⟨h1, h2, _, _, Or.inr h3⟩))
/-- what is found behind it: the records, whether they are those that were, or those that are -/
structure Found (S : St) (have_ nx : List ByteArray) (Sn : St) (bad : Int) (Sb : St) (fd : List ByteArray) : Prop where
  er : bootE Sn.ss = 0
  sto : bootS Sn.ss = Sb
  tell : bootL Sn.ss = fd
  down : Sn.d = decide (bad = 9)
  zero : bad = 0 → fd = nx ∧ Sb.g = Sn.g ∧ Sb.u = Sn.u ∧ Holds Sn fd
  eight : bad = 8 → fd = have_ ∧ Sn.g = S.g ∧ Sn.u = S.u ∧ Holds Sn fd
  nine : bad = 9 → (fd = have_ ∨ fd = nx) ∧ Holds Sb fd
  bad : bad = 0 ∨ bad = 8 ∨ bad = 9
  few : fd.length ≤ 64
theorem Did.found {S : St} {have_ nx : List ByteArray} {Sn : St} {bad : Int} (H : Did S have_ nx Sn bad) : ∃ Sb fd, Found S have_ nx Sn bad Sb fd := by
  have key : ∀ {ss : List ByteArray} {g t : Int} {l : List ByteArray}, Inv ss g t l → l.length ≤ 64 := by
    intro ss g t l h
    have h1 := h.used
    have h2 := room_eq h.log
    omega
  rcases H with ⟨rfl, h⟩ | ⟨rfl, h, h2, h3⟩ | ⟨rfl, hd, g, t, h⟩
  · obtain ⟨b1, b2, b3, b4⟩ := h.inv.boots
    exact ⟨_, _, b1, b2, b3, h.up, fun _ => ⟨rfl, rfl, h.used.symm, h⟩, fun e => absurd e (by decide), fun e => absurd e (by decide), Or.inl rfl, key h.inv⟩
  · obtain ⟨b1, b2, b3, b4⟩ := h.inv.boots
    exact ⟨_, _, b1, b2, b3, h.up, fun e => absurd e (by decide), fun _ => ⟨rfl, h2, h3, h⟩, fun e => absurd e (by decide), Or.inr (Or.inl rfl), key h.inv⟩
  · rcases h with h | h
    · obtain ⟨b1, b2, b3, b4⟩ := h.boots
      exact ⟨_, _, b1, rfl, b3, hd, fun e => absurd e (by decide), fun e => absurd e (by decide), fun _ => ⟨Or.inl rfl, b4⟩, Or.inr (Or.inr rfl), key h⟩
    · obtain ⟨b1, b2, b3, b4⟩ := h.boots
      exact ⟨_, _, b1, rfl, b3, hd, fun e => absurd e (by decide), fun e => absurd e (by decide), fun _ => ⟨Or.inr rfl, b4⟩, Or.inr (Or.inr rfl), key h⟩
end Go.Proofs.Ytmjbhmmcpjhmcaa
