/-
  The records of a generation that are found on a disk.
-/
import Derived.Test.YtmjbhmmcpjhmcaaLogE
namespace Go.Proofs.Ytmjbhmmcpjhmcaa
open Go.RowKit
set_option linter.unusedVariables false

/-- where record i of a generation lies -/
def recN (ss : List ByteArray) (g : Int) (i : Nat) : Nat := (recZ ss g i).toNat
/-- how many records an area has room for -/
def roomN (ss : List ByteArray) : Nat := (roomZ ss).toNat
theorem room_eq {ss : List ByteArray} (h : logB ss = true) : roomZ ss = (roomN ss : Int) ∧ 2 * roomN ss + 2 = ss.length ∧ 4 ≤ roomN ss ∧ roomN ss ≤ 64 := by
  have h1 := log_even h
  have h2 := log_bounds h
  unfold roomN roomZ
  omega
theorem rec_eq {ss : List ByteArray} (h : logB ss = true) (g : Int) (i : Nat) (hi : i < roomN ss) : recZ ss g i = (recN ss g i : Int) ∧ recN ss g i < ss.length ∧ 2 ≤ recN ss g i := by
  obtain ⟨h1, h2, h3, h4⟩ := room_eq h
  unfold recN recZ
  rw [h1]
  rcases (by omega : g % 2 = 0 ∨ g % 2 = 1) with e | e <;> rw [e] <;> omega
/-- is this record i of a generation -/
def isRecB (t : ByteArray) (g : Int) (i : Nat) : Bool := decide (openE t = 0) && decide (gOf t = g) && decide (nOf t = (i : Int) + 1)
theorem isRec_iff (t : ByteArray) (g : Int) (i : Nat) : isRecB t g i = true ↔ openE t = 0 ∧ gOf t = g ∧ nOf t = (i : Int) + 1 := by
  unfold isRecB
  simp [and_assoc]
/-- the records from i on, of the next so many sectors -/
def recsN (ss : List ByteArray) (g : Int) : Nat → Nat → List ByteArray
  | 0, _ => []
  | k + 1, i => if isRecB (secA ss (recN ss g i)) g i = true then pOf (secA ss (recN ss g i)) :: recsN ss g k (i + 1) else []
/-- the records of a generation -/
def recL (ss : List ByteArray) (g : Int) : List ByteArray := recsN ss g (roomN ss) 0
theorem recs_yes {ss : List ByteArray} {g : Int} {i R : Nat} (hi : i < R) (h : isRecB (secA ss (recN ss g i)) g i = true) : recsN ss g (R - i) i = pOf (secA ss (recN ss g i)) :: recsN ss g (R - (i + 1)) (i + 1) := by
  rw [show R - i = (R - (i + 1)) + 1 by omega]
  show (if _ then _ else _) = _
  rw [if_pos h]
theorem recs_no {ss : List ByteArray} {g : Int} {i R : Nat} (h : isRecB (secA ss (recN ss g i)) g i = false) : recsN ss g (R - i) i = [] := by
  cases R - i with
  | zero => rfl
  | succ k => unfold recsN; rw [if_neg (by rw [h]; decide)]
theorem recs_end (ss : List ByteArray) (g : Int) (R i : Nat) (h : R ≤ i) : recsN ss g (R - i) i = [] := by
  rw [show R - i = 0 by omega]
  rfl
theorem Stable.own (base : Nat) (e : TypeId) (size : Nat) (v : Value) (n : Nat) (xs : List Value) : Stable (fun w => w.ownsRow base e size v n xs) := by
  intro w w' h hB
  refine ⟨h.1, h.2.imp id ?_⟩
  rintro ⟨g, cap, cur, h1, h2, h3, h4⟩
  exact ⟨g, cap, cur, h1, h2, keepB hB h3, h4⟩
/-- one round of a row that grows: what is kept -/
theorem grow_keep {B : Nat} {w wr w1 : World} {v : Value} {k : Nat} {xs : List Value} {o ro : Obj} (hown : wr.ownsRow (B + 1) 9 1 v k xs) (hr : wr.heap[B]? = some ro) (hB : Below B w wr) (hS : B + 1 ≤ wr.heap.size)
    (hgrow : (wr.alloc o).grownBy w1 v.ownBlock) : w1.heap[B]? = some ro ∧ Below B w w1 ∧ B + 1 ≤ w1.heap.size := by
  have hlt := hown.lt
  have hsz : (wr.alloc o).heap.size = wr.heap.size + 1 := by simp
  refine ⟨?_, (hB.alloc (by omega) o).grown hgrow (by omega) (fun g hg => by have := hlt g hg; omega), ?_⟩
  · rw [hgrow.block B (by omega) (fun e => by have := hlt B e.symm; omega), Below.heap_alloc _ _ _ (by omega)]
    exact hr
  · have := hgrow.size
    omega
set_option maxRecDepth 100000 in
set_option maxHeartbeats 1600000 in
theorem records_any (oa : Option Addr) (n cap : Nat) (ss : List ByteArray) (g : Int) (w : World) (hR : Rd w oa n cap ss) (hL : logB ss = true) (h0 : 1 ≤ g) (h1 : g ≤ 250) :
    Calls Try.prog 37 #[.agg #[.slice oa n cap], .int .i64 g] w fun e w' => (∃ ob m, e = .returned (.slice ob (recL ss g).length m) ∧ Rd w' ob (recL ss g).length m (recL ss g)) ∧ Below w.heap.size w w' := by
  obtain ⟨i0, hi, hz0, hz1, hz2⟩ := info_parts info9
  have hlen := hR.len
  have hn : n ≤ 1000 := by have := (log_bounds hL).2; omega
  obtain ⟨hz, _, _, hR64⟩ := room_eq hL
  have HL := Lib.hid hL
  clear hL
  have hB0 := below_alloc w (.cells #[.slice oa n cap] 24)
  have hr0 : (w.alloc (.cells #[.slice oa n cap] 24)).heap[w.heap.size]? = some (.cells #[.slice oa n cap] 24 (0, 0)) := heap_alloc_new w _
  have hs0 : w.heap.size + 1 ≤ (w.alloc (.cells #[.slice oa n cap] 24)).heap.size := by simp
  go_enter Try.func37, Try.ntmps37
  go_wp2_with fail
  refine (room_any _ _ _ ss _ hlen hn).mono ?_
  rintro e w1 ⟨rfl, hB1⟩
  rw [hz]
  have hr1 := keepB hB1 hr0
  have hBB := hB0.trans (hB1.mono hB0.size)
  have hs1 := Nat.le_trans hs0 hB1.size
  have HZ := Lib.hid hz
  clear hB0 hr0 hs0 hB1 hz
  obtain ⟨R, hRR⟩ : ∃ R, R = roomN ss := ⟨_, rfl⟩
  rw [← hRR] at hR64 ⊢
  have HR := Lib.hid hRR
  clear hRR
  go_wp2_with fail
  go_loopw [5, 13] (fun s i wr => ∃ (k : Nat) (xs : List ByteArray) (v : Value), v = s ∧ k ≤ R ∧ i = .int .i64 k ∧ wr.ownsRow (w.heap.size + 1) 9 1 v k (strCells xs) ∧ Hid (xs.length = k ∧ recL ss g = xs ++ recsN ss g (R - k) k) ∧ Hid (wr.heap[w.heap.size]? = some (.cells #[.slice oa n cap] 24 (0, 0))) ∧ Below w.heap.size w wr ∧ Hid (w.heap.size + 1 ≤ wr.heap.size)) (fun _ i _ => R - (intOf i).toNat)
  case atStart => exact ⟨0, [], _, rfl, Nat.zero_le _, rfl, World.ownsRow_nil _ _ _ _, ⟨rfl, by unfold recL; rw [← HR.out]; rfl⟩, hr1, hBB, hs1⟩
  case round =>
    clear hr1 hBB hs1
    obtain ⟨k, xs, v, rfl, hk, rfl, hown, hx, hr, hB, hS⟩ := hrel
    by_cases h8 : k < R
    · obtain ⟨e1, e2, e3⟩ := rec_eq HL.out g k (by have := HR.out; omega)
      obtain ⟨T, hT⟩ : ∃ T, secA ss (recN ss g k) = T := ⟨_, rfl⟩
      obtain ⟨I, hID⟩ : ∃ I : World → Prop, I = fun wx => (wx.ownsRow (w.heap.size + 1) 9 1 v k (strCells xs) ∧ wx.heap[w.heap.size]? = some (.cells #[.slice oa n cap] 24 (0, 0)) ∧ w.heap.size + 1 ≤ wx.heap.size) ∧ Below w.heap.size w wx ∧ Rd wx oa n cap ss := ⟨_, rfl⟩
      have st : Hid (Stable I) := by
        rw [hID]
        exact ((Stable.own _ _ _ _ _ _).and ((Stable.row _ _).and (fun a b h hB => Nat.le_trans h hB.size))).and ((Stable.below _).and (Stable.rd _ _ _ _))
      have hI : I wr.drew := by
        rw [hID]
        exact ⟨⟨hown, hr.out, hS.out⟩, hB.drew, (hR.below hB (Nat.le_refl _)).drew⟩
      have gI : Hid (∀ wx, I wx → (wx.ownsRow (w.heap.size + 1) 9 1 v k (strCells xs) ∧ wx.heap[w.heap.size]? = some (.cells #[.slice oa n cap] 24 (0, 0)) ∧ w.heap.size + 1 ≤ wx.heap.size) ∧ Below w.heap.size w wx ∧ Rd wx oa n cap ss) := by
        intro wx h
        rw [hID] at h
        exact h
      clear hID
      have gC : ∀ x : Cls I, x.w.cell? ⟨w.heap.size, 0, none⟩ = some (.slice oa n cap) := fun x => cell_of_one (gI.out _ x.is).1.2.1
      have K1 : Hid (∀ x : Cls I, Calls Try.prog 64 #[.agg #[.slice oa n cap], .int .i64 g, .int .i64 (k : Int)] x.w fun e w'' => e = .returned (.int .i64 (recN ss g k : Int)) ∧ ∃ y : Cls I, w'' = y.w) :=
        fun x => e1 ▸ class_of st.out (recordAt_any _ _ _ ss g k _ hlen hn (by omega) (by omega) (by omega) (by omega))
      have K2 : Hid (∀ x : Cls I, ∀ v, openV T = v → Calls Try.prog 63 #[.agg #[.slice oa n cap], .int .i64 (recN ss g k : Int)] x.w fun e w'' => e = .returned v ∧ ∃ y : Cls I, w'' = y.w) := by
        intro x v hv
        rw [← hv, ← hT]
        exact class_of st.out (opened_any _ _ _ ss _ _ (gI.out _ x.is).2.2 HL.out e2)
      have HT := Lib.hid hT
      have E1 := Lib.hid e1
      clear hT e1 e2 e3
      generalize hj : recN ss g k = j at *
      have HJ := Lib.hid hj
      clear hj hown hr hB hS
      haveI : Nonempty (Cls I) := ⟨⟨_, hI⟩⟩
      by_cases h2 : openE T = 0
      · have V := Lib.hid (openV_yes h2)
        generalize hg : gOf T = gt at *
        generalize hno : nOf T = no at *
        generalize hp : pOf T = p at *
        have HG := Lib.hid hg
        have HN := Lib.hid hno
        have HP := Lib.hid hp
        have H2 := Lib.hid h2
        clear hg hno hp h2
        go_wp2_with fail
        refine wp_region_class I (by kernel_rfl) (by kernel_rfl) hI ?_
        repeat (go_big_quiet_step (first | exact K1.out _ | exact K2.out _ _ V.out))
        refine wpQuiet_nil ?_
        rintro _ ⟨x, rfl⟩
        obtain ⟨⟨o1, o2, o3⟩, o4, o5⟩ := gI.out _ x.is
        obtain ⟨wx, hwx⟩ := x
        dsimp only at o1 o2 o3 o4 o5 ⊢
        have hO := Lib.hid o2
        have hO3 := Lib.hid o3
        clear o2 o3 K1 K2 gC
        by_cases h3 : gt = g
        · by_cases h4 : no = (k : Int) + 1
          · have E : Hid (isRecB T g k = true) := (isRec_iff T g k).2 ⟨H2.out, HG.out.trans h3, HN.out.trans h4⟩
            subst h3
            subst h4
            go_wp2_with (at_builtin; refine wpList_append_own _ rfl _ _ 22 rfl (w.heap.size + 1) 9 i0 (.string ⟨#[]⟩) 1 16 Try.underlying22 hi hz0 hz1 hz2 rfl (by decide) _ _ _ rfl (o1.alloc _) ⟨wx.heap.size, 0, none⟩ 1 1 [.string p] rfl rfl (one_new _ _ _) (one_cell _) (by unfold maxLen; omega) (by omega) (by have := hO3.out; simp; omega) ?_; intro v' w1 hown1 hgrow _)
            obtain ⟨q1, q2, q3⟩ := grow_keep o1 hO.out o4 hO3.out hgrow
            rw [← strCells_snoc] at hown1
            have HO1 := Lib.hid hown1
            have Q1 := Lib.hid q1
            have Q3 := Lib.hid q3
            clear hown1 q1 q3 hgrow o1 o4
            go_wp2_with fail
            go_roundw
            case rel =>
              refine ⟨k + 1, xs ++ [p], _, rfl, by omega, by go_num, HO1.out, ⟨by rw [List.length_append, hx.out.1]; rfl, ?_⟩, Q1.out, q2, Q3.out⟩
              have := hx.out.2
              rw [recs_yes h8 (by rw [HJ.out, HT.out]; exact E.out), HJ.out, HT.out, HP.out] at this
              rw [this, List.append_assoc]
              rfl
            case measure => simp [intOf]; omega
          · have E : Hid (isRecB T g k = false) := by
              show _ = _
              rw [Bool.eq_false_iff]
              intro e
              exact h4 (HN.out.symm.trans ((isRec_iff T g k).1 e).2.2)
            have X : Hid (recL ss g = xs) := by have := hx.out.2; rw [recs_no (by rw [HJ.out, HT.out]; exact E.out), List.append_nil] at this; exact this
            obtain ⟨ob, cp, rfl, hRd, _⟩ := Rd.of_own hx.out.1 o1
            go_wp2_with fail
            go_ret
            rw [X.out, hx.out.1]
            exact ⟨⟨ob, cp, rfl, hRd⟩, o4⟩
        · have E : Hid (isRecB T g k = false) := by
            show _ = _
            rw [Bool.eq_false_iff]
            intro e
            exact h3 (HG.out.symm.trans ((isRec_iff T g k).1 e).2.1)
          have X : Hid (recL ss g = xs) := by have := hx.out.2; rw [recs_no (by rw [HJ.out, HT.out]; exact E.out), List.append_nil] at this; exact this
          obtain ⟨ob, cp, rfl, hRd, _⟩ := Rd.of_own hx.out.1 o1
          go_wp2_with fail
          go_ret
          rw [X.out, hx.out.1]
          exact ⟨⟨ob, cp, rfl, hRd⟩, o4⟩
      · have V := Lib.hid (openV_no rfl h2)
        have E : Hid (isRecB T g k = false) := by
          show _ = _
          rw [Bool.eq_false_iff]
          intro e
          exact h2 ((isRec_iff T g k).1 e).1
        have X : Hid (recL ss g = xs) := by have := hx.out.2; rw [recs_no (by rw [HJ.out, HT.out]; exact E.out), List.append_nil] at this; exact this
        have b2 : (openE T == 0) = false := by rw [beq_eq_false_iff_ne]; exact h2
        generalize openE T = er at *
        go_wp2_with fail
        refine wp_region_class I (by kernel_rfl) (by kernel_rfl) hI ?_
        repeat (go_big_quiet_step (first | exact K1.out _ | exact K2.out _ _ V.out))
        refine wpQuiet_nil ?_
        rintro _ ⟨x, rfl⟩
        obtain ⟨⟨o1, o2, o3⟩, o4, o5⟩ := gI.out _ x.is
        obtain ⟨wx, hwx⟩ := x
        dsimp only at o1 o2 o3 o4 o5 ⊢
        clear o2 o3 K1 K2 gC
        obtain ⟨ob, cp, rfl, hRd, _⟩ := Rd.of_own hx.out.1 o1
        go_wp2_with fail
        go_ret
        rw [X.out, hx.out.1]
        exact ⟨⟨ob, cp, rfl, hRd⟩, o4⟩
    · obtain rfl : k = R := by omega
      have X : Hid (recL ss g = xs) := by have := hx.out.2; rw [recs_end _ _ _ _ (Nat.le_refl _), List.append_nil] at this; exact this
      obtain ⟨ob, cp, rfl, hRd, _⟩ := Rd.of_own hx.out.1 hown
      go_wp2_with fail
      go_ret
      rw [X.out, hx.out.1]
      exact ⟨⟨ob, cp, rfl, hRd⟩, hB⟩
end Go.Proofs.Ytmjbhmmcpjhmcaa
