/-
  All pages of a generation: its records, and its header.
-/
import Derived.Test.YtmjbhmmcpjhmcaaLogM
namespace Go.Proofs.Ytmjbhmmcpjhmcaa
open Go.RowKit
set_option linter.unusedVariables false

/-- pages as cells -/
def pgCells : List (Nat × ByteArray) → List Value
  | [] => []
  | q :: l => .int .i64 (q.1 : Int) :: .string q.2 :: pgCells l
theorem pg_append (a b : List (Nat × ByteArray)) : pgCells (a ++ b) = pgCells a ++ pgCells b := by
  induction a with
  | nil => rfl
  | cons q r ih => show _ :: _ :: pgCells (r ++ b) = _; rw [ih]; rfl
theorem pg_length (a : List (Nat × ByteArray)) : (pgCells a).length = a.length * 2 := by
  induction a with
  | nil => rfl
  | cons q r ih => unfold pgCells; rw [List.length_cons, List.length_cons, ih, List.length_cons]; omega
theorem pg_at (a : List (Nat × ByteArray)) (i : Nat) (h : i < a.length) : (pgCells a)[i * 2]? = some (.int .i64 ((a.getD i (0, ByteArray.empty)).1 : Int)) ∧ (pgCells a)[i * 2 + 1]? = some (.string (a.getD i (0, ByteArray.empty)).2) := by
  induction a generalizing i with
  | nil => exact absurd h (by simp)
  | cons q r ih =>
    unfold pgCells
    cases i with
    | zero => exact ⟨rfl, rfl⟩
    | succ i =>
      have := ih i (by simpa using h)
      rw [show (i + 1) * 2 = i * 2 + 2 by omega]
      exact this
theorem PRd.of_own {w : World} {base : Nat} {v : Value} {n : Nat} {ps : List (Nat × ByteArray)} (hl : ps.length = n) (h : w.ownsRow base 67 2 v n (pgCells ps)) :
    ∃ oa cap, v = .slice oa n cap ∧ PRd w oa n cap ps := by
  rcases h.2 with ⟨rfl, rfl⟩ | ⟨g, cap, cur, rfl, hb, hg, hnc, _, hcs, htk⟩
  · exact ⟨none, 0, rfl, ⟨hl, Nat.le_refl _, fun i hi => absurd hi (by omega)⟩⟩
  · refine ⟨_, cap, rfl, hl, hnc, fun i hi => ⟨g, rfl, ?_, ?_⟩⟩
    · have := (pg_at ps i (by omega)).1
      rw [← htk, List.getElem?_take, if_pos (by omega)] at this
      rw [cell_of_row w g (i * 2) cur _ _ hg]
      simpa using this
    · have := (pg_at ps i (by omega)).2
      rw [← htk, List.getElem?_take, if_pos (by omega)] at this
      rw [cell_of_row w g (i * 2 + 1) cur _ _ hg]
      simpa using this
theorem infoPage : (Try.prog.info? 67).map (fun i => (i.zero, i.size, i.bytes)) = some (some (.agg #[.int .i64 0, .string ⟨#[]⟩]), 2, 24) := by kernel_rfl
theorem two_new (w : World) (x y : Value) (t : TypeId) : ∀ (j : Nat) (u : Value), [x, y][j]? = some u → (w.alloc (.cells #[x, y] t)).cell? ((⟨w.heap.size, 0, none⟩ : Addr).add j) = some u := by
  intro j u hj
  rw [add_at, Nat.zero_add]
  match j, hj with
  | 0, hj =>
    simp at hj
    subst hj
    exact World.cell?_alloc_at _ _ _ _ rfl
  | 1, hj =>
    simp at hj
    subst hj
    exact World.cell?_alloc_at _ _ _ _ rfl
theorem two_cells (x : Int) (y : ByteArray) : ∀ u ∈ [Value.int .i64 x, Value.string y], u.oneCell' = true := by
  intro u hu
  simp at hu
  rcases hu with rfl | rfl <;> rfl
theorem pages_take (ss : List ByteArray) (g : Int) (l : List ByteArray) (k : Nat) (hk : k < l.length) : (pagesG ss g l).take (k + 1) = (pagesG ss g l).take k ++ [(recN ss g k, sealS g (k + 1) (l.getD k ⟨#[]⟩))] := by
  have hp := pages_at ss g l k (by omega)
  have hl : k < (pagesG ss g l).length := by rw [pages_length]; omega
  unfold pageG at hp
  rw [if_pos hk] at hp
  rw [List.take_succ_eq_append_getElem hl]
  rw [List.getD_eq_getElem?_getD, List.getElem?_eq_getElem hl] at hp
  rw [show (pagesG ss g l)[k] = _ from hp]
theorem pages_all (ss : List ByteArray) (g : Int) (l : List ByteArray) : pagesG ss g l = (pagesG ss g l).take l.length ++ [(hdN g, sealS g 0 ⟨#[]⟩)] := by
  have hp := pages_at ss g l l.length (Nat.le_refl _)
  have hl : l.length < (pagesG ss g l).length := by rw [pages_length]; omega
  unfold pageG at hp
  rw [if_neg (Nat.lt_irrefl _)] at hp
  rw [List.getD_eq_getElem?_getD, List.getElem?_eq_getElem hl] at hp
  have := List.take_succ_eq_append_getElem hl
  rw [show (pagesG ss g l)[l.length] = _ from hp, List.take_of_length_le (by rw [pages_length]; exact Nat.le_refl _)] at this
  exact this
theorem own_grow {B : Nat} {w wr w1 : World} {v : Value} {k : Nat} {xs : List Value} {o ro : Obj} (hown : wr.ownsRow (B + 1) 67 2 v k xs) (hr : wr.heap[B]? = some ro) (hB : Below B w wr) (hS : B + 1 ≤ wr.heap.size)
    (hgrow : (wr.alloc o).grownBy w1 v.ownBlock) : w1.heap[B]? = some ro ∧ Below B w w1 ∧ B + 1 ≤ w1.heap.size := by
  have hlt := hown.lt
  have hsz : (wr.alloc o).heap.size = wr.heap.size + 1 := by simp
  refine ⟨?_, (hB.alloc (by omega) o).grown hgrow (by omega) (fun g hg => by have := hlt g hg; omega), ?_⟩
  · rw [hgrow.block B (by omega) (fun e => by have := hlt B e.symm; omega), Below.heap_alloc _ _ _ (by omega)]
    exact hr
  · have := hgrow.size
    omega
set_option maxRecDepth 100000 in
set_option maxHeartbeats 1600000 in
theorem turned_any (oa : Option Addr) (n cap : Nat) (ss : List ByteArray) (g : Int) (ol : Option Addr) (nl cl : Nat) (l : List ByteArray) (w : World) (hlen : ss.length = n) (hL : logB ss = true) (h0 : 1 ≤ g) (h1 : g ≤ 250) (hA : ARd w ol nl cl l) (hm : l.length ≤ roomN ss) (hs : ∀ p ∈ l, p.size ≤ 96) :
    Calls Try.prog 55 #[.agg #[.slice oa n cap], .int .i64 g, .slice ol nl cl] w fun e w' => (∃ op m, e = .returned (.slice op (nl + 1) m) ∧ PRd w' op (nl + 1) m (pagesG ss g l)) ∧ Below w.heap.size w w' := by
  obtain ⟨i0, hi, hz0, hz1, hz2⟩ := info_parts infoPage
  have hll := hA.len
  have hn : n ≤ 1000 := by have := (log_bounds hL).2; omega
  have hr := room_eq hL
  have hnl : nl ≤ 64 := by omega
  have hpl : Hid ((pagesG ss g l).length = nl + 1) := by show _ = _; rw [pages_length, hll]
  have HP := Lib.hid (pages_all ss g l)
  have hB0 := below_alloc w (.cells #[.slice oa n cap] 24)
  have hr0 : (w.alloc (.cells #[.slice oa n cap] 24)).heap[w.heap.size]? = some (.cells #[.slice oa n cap] 24 (0, 0)) := heap_alloc_new w _
  have hs0 : w.heap.size + 1 ≤ (w.alloc (.cells #[.slice oa n cap] 24)).heap.size := by simp
  go_enter Try.func55, Try.ntmps55
  go_wp2_with fail
  go_loopw [7, 12] (fun s i wr => ∃ (k : Nat) (v : Value), v = s ∧ k ≤ nl ∧ i = .int .i64 k ∧ wr.ownsRow (w.heap.size + 1) 67 2 v k (pgCells ((pagesG ss g l).take k)) ∧ Hid (wr.heap[w.heap.size]? = some (.cells #[.slice oa n cap] 24 (0, 0))) ∧ Below w.heap.size w wr ∧ Hid (w.heap.size + 1 ≤ wr.heap.size)) (fun _ i _ => nl - (intOf i).toNat)
  case atStart => exact ⟨0, _, rfl, Nat.zero_le _, rfl, World.ownsRow_nil _ _ _ _, hr0, hB0, hs0⟩
  case round =>
    clear hr0 hB0 hs0
    obtain ⟨k, v, rfl, hk, rfl, hown, hr0, hB, hS⟩ := hrel
    have hcd := cell_of_one hr0.out
    by_cases h8 : k < nl
    · obtain ⟨b, off, rfl, hc⟩ := ofEach hA hB h8
      have HT := Lib.hid (pages_take ss g l k (by omega))
      have hps : Hid ((l.getD k ByteArray.empty).size ≤ 96) := getD_small hs k
      have HC : Hid (∀ wx : World, Calls Try.prog 51 #[.agg #[.slice oa n cap], .int .i64 g, .int .i64 (k : Int), .string (l.getD k ByteArray.empty)] wx fun e w' => e = .returned (.agg #[.int .i64 (recN ss g k : Int), .string (sealS g (k + 1) (l.getD k ByteArray.empty))]) ∧ Below wx.heap.size wx w') := by
        intro wx
        have := record_any oa n cap ss g (k : Int) (l.getD k ByteArray.empty) wx hlen hn h0 h1 (by omega) (by omega) hps.out
        rw [(rec_eq hL g k (by omega)).1] at this
        exact this
      have e1 : Hid (l.getD k ⟨#[]⟩ = l.getD k ByteArray.empty) := rfl
      rw [e1.out] at HT
      generalize sealS g (k + 1) (l.getD k ByteArray.empty) = T at *
      generalize l.getD k ByteArray.empty = p at *
      generalize recN ss g k = r at *
      have hj : (k : Int) < (nl : Int) := by omega
      have hj0 : (0 : Int) ≤ (k : Int) := by omega
      go_wp2_with fail
      refine (HC.out _).mono ?_
      rintro e w1 ⟨rfl, hB1⟩
      have hown1 := Stable.own _ _ _ _ _ _ _ _ hown hB1
      have hr1 := keepB hB1 hr0.out
      have hBB := hB.trans (hB1.mono hB.size)
      have hS1 := Nat.le_trans hS.out hB1.size
      have HS1 := Lib.hid hS1
      have HR1 := Lib.hid hr1
      clear hS1 hr1 hown hB hc hcd hB1
      go_wp2_with (at_builtin; refine wpList_append_own _ rfl _ _ 69 rfl (w.heap.size + 1) 67 i0 (.agg #[.int .i64 0, .string ⟨#[]⟩]) 2 24 Try.underlying69 hi hz0 hz1 hz2 rfl (by decide) _ _ _ rfl (hown1.alloc _) ⟨w1.heap.size, 0, none⟩ 1 1 [.int .i64 (r : Int), .string T] rfl rfl (two_new _ _ _ _) (two_cells _ _) (by unfold maxLen; omega) (by omega) (by have := HS1.out; simp; omega) ?_; intro v' w2 hown2 hgrow _)
      obtain ⟨q1, q2, q3⟩ := own_grow hown1 HR1.out hBB HS1.out hgrow
      have HO : Hid (w2.ownsRow (w.heap.size + 1) 67 2 v' (k + 1) (pgCells ((pagesG ss g l).take (k + 1)))) := by
        show World.ownsRow _ _ _ _ _ _ _
        rw [HT.out, pg_append]
        exact hown2
      have Q1 := Lib.hid q1
      have Q3 := Lib.hid q3
      clear hown2 hown1 q1 q3 hgrow hBB
      go_wp2_with fail
      go_roundw
      case rel => exact ⟨k + 1, _, rfl, by omega, by go_num, HO.out, Q1.out, q2, Q3.out⟩
      case measure => simp [intOf]; omega
    · obtain rfl : k = nl := by omega
      have HC : Hid (∀ wx : World, Calls Try.prog 35 #[.int .i64 g] wx fun e w' => e = .returned (.agg #[.int .i64 (hdN g : Int), .string (sealS g 0 ⟨#[]⟩)]) ∧ Below wx.heap.size wx w') := by
        intro wx
        have := header_any g wx h0 h1
        rw [show g % 2 = (hdN g : Int) by unfold hdN; omega] at this
        exact this
      have HP' := Lib.hid (hll ▸ HP.out)
      generalize sealS g 0 ⟨#[]⟩ = T at *
      generalize hdN g = r at *
      clear hcd
      go_wp2_with fail
      refine (HC.out _).mono ?_
      rintro e w1 ⟨rfl, hB1⟩
      have hown1 := Stable.own _ _ _ _ _ _ _ _ hown hB1
      have hr1 := keepB hB1 hr0.out
      have hBB := hB.trans (hB1.mono hB.size)
      have hS1 := Nat.le_trans hS.out hB1.size
      have HS1 := Lib.hid hS1
      have HR1 := Lib.hid hr1
      clear hS1 hr1 hown hB hB1
      go_wp2_with (at_builtin; refine wpList_append_own _ rfl _ _ 69 rfl (w.heap.size + 1) 67 i0 (.agg #[.int .i64 0, .string ⟨#[]⟩]) 2 24 Try.underlying69 hi hz0 hz1 hz2 rfl (by decide) _ _ _ rfl (hown1.alloc _) ⟨w1.heap.size, 0, none⟩ 1 1 [.int .i64 (r : Int), .string T] rfl rfl (two_new _ _ _ _) (two_cells _ _) (by unfold maxLen; omega) (by omega) (by have := HS1.out; simp; omega) ?_; intro v' w2 hown2 hgrow _)
      obtain ⟨q1, q2, q3⟩ := own_grow hown1 HR1.out hBB HS1.out hgrow
      have hown3 : w2.ownsRow (w.heap.size + 1) 67 2 v' (k + 1) (pgCells (pagesG ss g l)) := by
        rw [HP'.out, pg_append]
        exact hown2
      obtain ⟨op, m, rfl, hPR⟩ := PRd.of_own hpl.out hown3
      have HPR := Lib.hid hPR
      clear hown2 hown1 q1 q3 hgrow hBB hown3 hPR
      go_wp2_with fail
      go_ret
      exact ⟨⟨op, m, rfl, HPR.out⟩, q2⟩
end Go.Proofs.Ytmjbhmmcpjhmcaa
