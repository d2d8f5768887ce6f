/-
  Which of two duties comes ahead (package duty).
-/
import Derived.Test.YtaiacohnhhicpaaDutU
import Derived.Test.YtaiacohnhhicpaaLabC
import Derived.Deep.QuietTactic
import Derived.BigQuiet
namespace Go.Proofs.Ytaiacohnhhicpaa
open Go.RowKit Go.Shelf
set_option linter.unusedVariables false
set_option linter.unusedSimpArgs false

/-- -1, 0 or 1: of two numbers, of two labels, of two rows of labels -/
def cmpI (x y : Int) : Int := if x < y then -1 else if y < x then 1 else 0
def orI (x y : Int) : Int := if x = 0 then y else x
def cmpP (x y : L2) : Int := orI (cmpS x.1 y.1) (cmpS x.2 y.2)
def cmpR : List L2 → List L2 → Int
  | [], [] => 0
  | [], _ :: _ => -1
  | _ :: _, [] => 1
  | x :: a, y :: b => if cmpP x y = 0 then cmpR a b else cmpP x y
theorem cmpS_zero {a b : ByteArray} : cmpS a b = 0 ↔ a = b := by
  rw [cmpS_is]
  constructor
  · intro h
    cases h1 : ltS a b with
    | true => rw [h1] at h; simp at h
    | false =>
      cases h2 : ltS b a with
      | true => rw [h1, h2] at h; simp at h
      | false => exact ltS_total h1 h2
  · rintro rfl
    rw [ltS_irrefl]
    simp
theorem cmpS_neg {a b : ByteArray} : cmpS a b < 0 ↔ ltS a b = true := by
  rw [cmpS_is]
  cases h1 : ltS a b with
  | true => simp
  | false => cases h2 : ltS b a <;> simp
theorem cmpP_zero {x y : L2} : cmpP x y = 0 ↔ x = y := by
  unfold cmpP orI
  constructor
  · intro h
    split at h
    · rename_i h0
      exact Prod.ext (cmpS_zero.1 h0) (cmpS_zero.1 h)
    · rename_i h0
      exact absurd h h0
  · rintro rfl
    rw [if_pos (cmpS_zero.2 rfl)]
    exact cmpS_zero.2 rfl
theorem cmpP_neg {x y : L2} : decide (cmpP x y < 0) = ltP x y := by
  unfold cmpP orI ltP
  by_cases h0 : cmpS x.1 y.1 = 0
  · rw [if_pos h0]
    have e := cmpS_zero.1 h0
    rw [e, ltS_irrefl, decide_eq_true rfl, Bool.false_or, Bool.true_and, Bool.eq_iff_iff]
    rw [decide_eq_true_eq]
    exact cmpS_neg
  · rw [if_neg h0]
    have e : x.1 ≠ y.1 := fun e => h0 (cmpS_zero.2 e)
    rw [decide_eq_false e, Bool.false_and, Bool.or_false, Bool.eq_iff_iff, decide_eq_true_eq]
    exact cmpS_neg
theorem cmpR_neg : ∀ a b : List L2, decide (cmpR a b < 0) = ltR a b
  | [], [] => rfl
  | [], _ :: _ => rfl
  | _ :: _, [] => rfl
  | x :: a, y :: b => by
    rw [cmpR, ltR]
    by_cases e : x = y
    · rw [if_pos (cmpP_zero.2 e), if_pos e]
      exact cmpR_neg a b
    · rw [if_neg (fun h => e (cmpP_zero.1 h)), if_neg e]
      exact cmpP_neg
theorem aheadB_cmp (a b : D6) : decide (orI (cmpI a.du b.du) (cmpR a.ls b.ls) < 0) = aheadB a b := by
  unfold aheadB orI cmpI
  by_cases h1 : a.du < b.du
  · simp [h1]
  · by_cases h2 : b.du < a.du
    · simp [h1, h2]
      omega
    · have e : a.du = b.du := by omega
      rw [if_neg h1, if_neg h2, if_pos rfl, cmpR_neg, decide_eq_false h1, decide_eq_true e]
      rfl
theorem drop_at (l : List L2) (k : Nat) (hk : k < l.length) : l.drop k = l.getD k zL :: l.drop (k + 1) := by
  rw [List.drop_eq_getElem_cons hk, getD_L l k hk]

set_option maxRecDepth 100000 in
set_option maxHeartbeats 800000 in
theorem nan_any (x : Int) (w : World) :
    Calls Try.prog 37 #[.int .i64 x] w fun e w' => e = .returned (.bool false) ∧ w' = w := by
  go_enter Try.func37, Try.ntmps37
  go_wp2_with fail
  go_ret
  exact ⟨by simp, rfl⟩
set_option maxRecDepth 100000 in
set_option maxHeartbeats 800000 in
theorem cmpInt_any (x y : Int) (w : World) :
    Calls Try.prog 21 #[.int .i64 x, .int .i64 y] w fun e w' => e = .returned (.int .i64 (cmpI x y)) ∧ w' = w := by
  have HX := fun w => nan_any x w
  have HY := fun w => nan_any y w
  have HC : Hid (cmpI x y = if x < y then -1 else if y < x then 1 else 0) := rfl
  by_cases h1 : x < y
  · have HR : Hid (cmpI x y = -1) := by show _ = _; rw [HC.out, if_pos h1]
    rw [HR.out]
    clear HC HR
    go_enter Try.func21, Try.ntmps21
    go_wp2_with fail
    refine (HX _).mono ?_
    rintro e w' ⟨rfl, rfl⟩
    go_wp2_with fail
    refine (HY _).mono ?_
    rintro e w' ⟨rfl, rfl⟩
    go_wp2_with fail
    go_ret
    exact ⟨rfl, rfl⟩
  · by_cases h2 : y < x
    · have HR : Hid (cmpI x y = 1) := by show _ = _; rw [HC.out, if_neg h1, if_pos h2]
      rw [HR.out]
      clear HC HR
      go_enter Try.func21, Try.ntmps21
      go_wp2_with fail
      refine (HX _).mono ?_
      rintro e w' ⟨rfl, rfl⟩
      go_wp2_with fail
      refine (HY _).mono ?_
      rintro e w' ⟨rfl, rfl⟩
      go_wp2_with fail
      go_ret
      exact ⟨rfl, rfl⟩
    · have HR : Hid (cmpI x y = 0) := by show _ = _; rw [HC.out, if_neg h1, if_neg h2]
      rw [HR.out]
      clear HC HR
      go_enter Try.func21, Try.ntmps21
      go_wp2_with fail
      refine (HX _).mono ?_
      rintro e w' ⟨rfl, rfl⟩
      go_wp2_with fail
      refine (HY _).mono ?_
      rintro e w' ⟨rfl, rfl⟩
      go_wp2_with fail
      go_ret
      exact ⟨rfl, rfl⟩
set_option maxRecDepth 100000 in
set_option maxHeartbeats 1600000 in
theorem or_any (x y : Int) (A : Nat) (w : World) (h0 : w.cell? ⟨A, 0, none⟩ = some (.int .i64 x)) (h1 : w.cell? ⟨A, 1, none⟩ = some (.int .i64 y)) :
    Calls Try.prog 20 #[.slice (some ⟨A, 0, none⟩) 2 2] w fun e w' => e = .returned (.int .i64 (orI x y)) ∧ w' = w := by
  have HC : Hid (orI x y = if x = 0 then y else x) := rfl
  have hg : ∀ k : Nat, k < 2 → w.cell? ⟨A, k, none⟩ = some (.int .i64 (if k = 0 then x else y)) := by
    intro k hk
    rcases (by omega : k = 0 ∨ k = 1) with rfl | rfl
    · exact h0
    · exact h1
  clear h0 h1
  go_enter Try.func20, Try.ntmps20
  go_wp2_with fail
  go_loopw [5, 8] (fun _ s8 wr => ∃ k : Nat, k ≤ 2 ∧ s8 = .int .i64 k ∧ wr = w ∧ (1 ≤ k → x = 0) ∧ (2 ≤ k → y = 0)) (fun _ s8 _ => 2 - (intOf s8).toNat)
  case atStart => exact ⟨0, by omega, rfl, rfl, by omega, by omega⟩
  case round =>
    obtain ⟨k, hk, rfl, rfl, hx, hy⟩ := hrel
    by_cases hlt : k < 2
    · have hc := hg k hlt
      have HX : Hid ((if k = 0 then x else y) ≠ 0 → orI x y = (if k = 0 then x else y)) := by
        intro hne
        rw [HC.out]
        by_cases e : k = 0
        · rw [if_pos e] at hne ⊢
          rw [if_neg hne]
        · rw [if_neg e, if_pos (hx (by omega))]
      have HY : Hid ((if k = 0 then x else y) = 0 → (1 ≤ k + 1 → x = 0) ∧ (2 ≤ k + 1 → y = 0)) := by
        intro he
        by_cases e : k = 0
        · rw [if_pos e] at he
          exact ⟨fun _ => he, fun h => by omega⟩
        · rw [if_neg e] at he
          exact ⟨fun _ => hx (by omega), fun _ => he⟩
      generalize (if k = 0 then x else y) = v at *
      clear hg hx hy
      by_cases hv : v = 0
      · have HQ := Lib.hid (HY.out hv)
        subst hv
        clear HX HY
        go_wp2_with fail
        go_roundw
        case rel => exact ⟨k + 1, by omega, by go_num, by first | exact trivial | rfl, HQ.out.1, HQ.out.2⟩
        case measure => simp [intOf]; omega
      · have HQ := Lib.hid (HX.out hv)
        have hvb : (v != 0) = true := by simp [hv]
        clear HX HY
        go_wp2_with fail
        go_ret
        exact ⟨retI HQ.out.symm, by first | exact trivial | rfl⟩
    · have HQ : Hid (orI x y = 0) := by show _ = _; rw [HC.out, if_pos (hx (by omega))]; exact hy (by omega)
      obtain rfl : k = 2 := by omega
      clear hg hx hy
      go_wp2_with fail
      go_ret
      exact ⟨retI HQ.out.symm, by first | exact trivial | rfl⟩
set_option maxRecDepth 100000 in
set_option maxHeartbeats 3200000 in
theorem byLabel_any (a b : L2) (w : World) :
    Calls Try.prog 23 #[aggL a, aggL b] w fun e w' => e = .returned (.int .i64 (cmpP a b)) ∧ Below w.heap.size w w' := by
  obtain ⟨s, t⟩ := a
  obtain ⟨u, v⟩ := b
  have HC : Hid (cmpP (s, t) (u, v) = orI (cmpS s u) (cmpS t v)) := rfl
  rw [HC.out]
  clear HC
  have HT := fun w => compare_any s u w
  have HU := fun w => compare_any t v w
  have HO := fun A w h0 h1 => or_any (cmpS s u) (cmpS t v) A w h0 h1
  generalize cmpS s u = x at *
  generalize cmpS t v = y at *
  generalize orI x y = r at *
  dsimp only [aggL]
  obtain ⟨V1, V2, B3⟩ := two_boxes w 61 61 #[.string s, .string t] #[.string u, .string v]
  go_enter Try.func23, Try.ntmps23
  go_upto_region 1 with fail
  generalize (w.alloc _).alloc _ = wr at *
  obtain ⟨I, hID⟩ : ∃ I : World → Prop, I = fun wx => (Vals wx w.heap.size 61 #[.string s, .string t] ∧ Vals wx (w.heap.size + 1) 61 #[.string u, .string v]) ∧ (w.heap.size ≤ wx.heap.size ∧ Below w.heap.size w wx) := ⟨_, rfl⟩
  have st : Hid (Stable I) := by
    show Stable I
    rw [hID]
    exact ((Stable.vals _ _ _).and (Stable.vals _ _ _)).and (Stable.below _ _)
  have gI : Hid (∀ wx, I wx → (Vals wx w.heap.size 61 #[.string s, .string t] ∧ Vals wx (w.heap.size + 1) 61 #[.string u, .string v]) ∧ (w.heap.size ≤ wx.heap.size ∧ Below w.heap.size w wx)) := by intro wx h; rw [hID] at h; exact h
  have hI0 : I wr := by rw [hID]; exact ⟨⟨V1, V2⟩, B3.size, B3⟩
  have hId := st.out.drew hI0
  haveI ne : Nonempty (Cls I) := ⟨⟨_, hId⟩⟩
  clear hID hI0 V1 V2 B3
  have p0 : ∀ x : Cls I, x.w.cell? ⟨w.heap.size, 0, none⟩ = some (.string s) := fun x => (gI.out _ x.is).1.1.cell 0
  have p1 : ∀ x : Cls I, x.w.cell? ⟨w.heap.size, 1, none⟩ = some (.string t) := fun x => (gI.out _ x.is).1.1.cell 1
  have q0 : ∀ x : Cls I, x.w.cell? ⟨w.heap.size + 1, 0, none⟩ = some (.string u) := fun x => (gI.out _ x.is).1.2.cell 0
  have q1 : ∀ x : Cls I, x.w.cell? ⟨w.heap.size + 1, 1, none⟩ = some (.string v) := fun x => (gI.out _ x.is).1.2.cell 1
  have K1 : Hid (∀ z : Cls I, Calls Try.prog 38 #[.string s, .string u] z.w fun e w'' => e = .returned (.int .i64 x) ∧ ∃ y : Cls I, w'' = y.w) := fun z => class_same (HT z.w)
  have K2 : Hid (∀ z : Cls I, Calls Try.prog 38 #[.string t, .string v] z.w fun e w'' => e = .returned (.int .i64 y) ∧ ∃ y : Cls I, w'' = y.w) := fun z => class_same (HU z.w)
  clear HT HU
  refine wp_region_class_tail I 10 (by kernel_rfl) (by kernel_rfl) hId ?_
  simp only [List.take_succ_cons, List.take_zero, List.drop_succ_cons, List.drop_zero]
  iterate 5 (go_big_quiet_step (exact K1.out _))
  iterate 5 (go_big_quiet_step (exact K2.out _))
  refine wpQuiet_nil ?_
  rintro _ ⟨xx, rfl⟩
  clear p0 p1 q0 q1 K1 K2 hId
  obtain ⟨_, hW, B2⟩ := gI.out _ xx.is
  generalize xx.w = W2 at *
  clear ne gI st xx I
  have B4 := B2.alloc hW (.cells #[.int .i64 x, .int .i64 y] 3)
  have HO2 := HO W2.heap.size (W2.alloc (.cells #[.int .i64 x, .int .i64 y] 3)) (by simp) (by simp)
  clear HO
  go_wp2_with fail
  refine HO2.mono ?_
  rintro e w5 ⟨rfl, rfl⟩
  go_wp2_with fail
  go_ret
  exact ⟨rfl, B4⟩
theorem enter_byLabel : ∀ args w, (callFunc 23 args).run Try.prog w = .ok (.enter 23 args) w := enters_of Try.func23 (by kernel_rfl) rfl
theorem getD_pair (l : List L2) (k : Nat) : ∃ x : L2, l.getD k zL = x := ⟨_, rfl⟩
set_option maxRecDepth 100000 in
set_option maxHeartbeats 3200000 in
theorem cmpRow_any (oa : Option Addr) (n cap : Nat) (a : List L2) (ob : Option Addr) (m cp : Nat) (b : List L2) (w : World) (h : Ls w oa n cap a) (h' : Ls w ob m cp b) (hn : n ≤ 4611686018427387904) (hm : m ≤ 4611686018427387904) :
    Calls Try.prog 22 #[.slice oa n cap, .slice ob m cp, .func (.func 23) #[] #[]] w fun e w' => e = .returned (.int .i64 (cmpR a b)) ∧ Below w.heap.size w w' := by
  have hl := h.len
  have hl' := h'.len
  have hr := h.room
  have hr' := h'.room
  have eg := enter_byLabel
  have HLa := Lib.hid hl
  have HLb := Lib.hid hl'
  obtain ⟨R, hR⟩ : ∃ R, Hid (cmpR a b = R) := ⟨_, rfl⟩
  rw [hR.out]
  go_enter Try.func22, Try.ntmps22
  go_wp2_with fail
  go_loopw [7, 8, 9, 10, 13] (fun _ _ _ _ s13 wr => ∃ k : Nat, k ≤ n ∧ k ≤ m ∧ s13 = .int .i64 k ∧ Below w.heap.size w wr ∧ cmpR (a.drop k) (b.drop k) = R) (fun _ _ _ _ s13 _ => n - (intOf s13).toNat)
  case atStart => exact ⟨0, Nat.zero_le _, Nat.zero_le _, rfl, Below.refl _ _, by rw [List.drop_zero, List.drop_zero]; exact hR.out⟩
  case round =>
    obtain ⟨k, hk, hk', rfl, hB, hD⟩ := hrel
    have HD := Lib.hid hD
    clear hD
    by_cases hlt : k < n
    · obtain ⟨g, o, rfl, c0, c1⟩ := (h.below hB (Nat.le_refl _)).cell k hlt
      by_cases hlt' : k < m
      · obtain ⟨g', o', rfl, d0, d1⟩ := (h'.below hB (Nat.le_refl _)).cell k hlt'
        have HS : Hid ((if cmpP (a.getD k zL) (b.getD k zL) = 0 then cmpR (a.drop (k + 1)) (b.drop (k + 1)) else cmpP (a.getD k zL) (b.getD k zL)) = R) := by
          show _ = _
          have e := HD.out
          rw [drop_at a k (by rw [HLa.out]; exact hlt), drop_at b k (by rw [HLb.out]; exact hlt'), cmpR] at e
          exact e
        have hx := a.getD k zL
        generalize a.getD k zL = x at *
        generalize b.getD k zL = y at *
        have HF := fun w => byLabel_any x y w
        generalize cmpP x y = P at *
        obtain ⟨s, t⟩ := x
        obtain ⟨u, v⟩ := y
        dsimp only [aggL] at c0 c1 d0 d1 HF
        clear HD h h' hl hl' hx
        have B1 := below_alloc wr (.cells #[.string s, .string t] 61)
        have e0 : (wr.alloc (.cells #[.string s, .string t] 61)).cell? ⟨g', o' + k * 2, none⟩ = some (.string u) := keepD B1 d0
        have e1 : (wr.alloc (.cells #[.string s, .string t] 61)).cell? ⟨g', o' + k * 2 + 1, none⟩ = some (.string v) := keepD B1 d1
        have V1 := (Vals.new wr 61 #[.string s, .string t]).alloc (.cells #[.string u, .string v] 61)
        have z0 : ((wr.alloc (.cells #[.string s, .string t] 61)).alloc (.cells #[.string u, .string v] 61)).cell? ⟨wr.heap.size, 0, none⟩ = some (.string s) := V1.cell 0
        have z1 : ((wr.alloc (.cells #[.string s, .string t] 61)).alloc (.cells #[.string u, .string v] 61)).cell? ⟨wr.heap.size, 1, none⟩ = some (.string t) := V1.cell 1
        have B2 := (hB.alloc hB.size (.cells #[.string s, .string t] 61)).alloc (by rw [World.size_alloc]; have := hB.size; omega) (.cells #[.string u, .string v] 61)
        have hmk : decide (m ≤ k) = false := decide_eq_false (by omega)
        clear V1 B1
        by_cases hP : P = 0
        · have HQ : Hid (cmpR (a.drop (k + 1)) (b.drop (k + 1)) = R) := by
            have e := HS.out
            rw [if_pos hP] at e
            exact e
          subst hP
          clear HS
          go_wp2_with fail
          refine (HF _).mono ?_
          rintro e w2 ⟨rfl, B3⟩
          have B4 := B2.trans (B3.mono B2.size)
          clear c0 c1 d0 d1 e0 e1 z0 z1 B2 B3 HF
          go_wp2_with fail
          go_roundw
          case rel => exact ⟨k + 1, by omega, by omega, by go_num, B4, HQ.out⟩
          case measure => simp [intOf]; omega
        · have HQ : Hid (P = R) := by
            have e := HS.out
            rw [if_neg hP] at e
            exact e
          have hPb : (P != 0) = true := by simp [hP]
          clear HS
          go_wp2_with fail
          refine (HF _).mono ?_
          rintro e w2 ⟨rfl, B3⟩
          have B4 := B2.trans (B3.mono B2.size)
          clear c0 c1 d0 d1 e0 e1 z0 z1 B2 B3 HF
          go_wp2_with fail
          go_ret
          exact ⟨retI HQ.out, B4⟩
      · have HQ : Hid (1 = R) := by
          show _ = _
          have e := HD.out
          rw [drop_at a k (by rw [HLa.out]; exact hlt), List.drop_of_length_le (l := b) (by rw [HLb.out]; omega), cmpR] at e
          exact e
        have hx := a.getD k zL
        generalize a.getD k zL = x at *
        obtain ⟨s, t⟩ := x
        dsimp only at c0 c1
        have B2 := hB.alloc hB.size (.cells #[.string s, .string t] 61)
        clear HD h h' hl hl' hx
        go_wp2_with fail
        go_ret
        exact ⟨retI HQ.out, B2⟩
    · obtain rfl : k = n := by omega
      by_cases hlt' : k < m
      · have HQ : Hid (-1 = R) := by
          show _ = _
          have e := HD.out
          rw [List.drop_of_length_le (l := a) (by rw [HLa.out]; omega), drop_at b k (by rw [HLb.out]; exact hlt'), cmpR] at e
          exact e
        clear HD h h' hl hl'
        go_wp2_with fail
        go_ret
        exact ⟨retI HQ.out, hB⟩
      · have HQ : Hid (0 = R) := by
          show _ = _
          have e := HD.out
          rw [List.drop_of_length_le (l := a) (by rw [HLa.out]; omega), List.drop_of_length_le (l := b) (by rw [HLb.out]; omega), cmpR] at e
          exact e
        clear HD h h' hl hl'
        go_wp2_with fail
        go_ret
        exact ⟨retI HQ.out, hB⟩
set_option maxRecDepth 100000 in
set_option maxHeartbeats 3200000 in
theorem ahead_any (oa : Option Addr) (n cap : Nat) (ob : Option Addr) (n' cap' : Nat) (a b : D6) (w : World) (h : DAt w oa n cap a) (h' : DAt w ob n' cap' b) :
    Calls Try.prog 8 #[aggD oa n cap a, aggD ob n' cap' b] w fun e w' => e = .returned (.bool (aheadB a b)) ∧ Below w.heap.size w w' := by
  rw [← aheadB_cmp]
  obtain ⟨V1, V2, B3⟩ := two_boxes w 24 24 (dV (.slice oa n cap) a) (dV (.slice ob n' cap') b)
  have hA := h.below B3 (Nat.le_refl _)
  have hB := h'.below B3 (Nat.le_refl _)
  obtain ⟨al, a1, a2, a3, a4, a5⟩ := a
  obtain ⟨bl, b1, b2, b3, b4, b5⟩ := b
  have HT := fun w => cmpInt_any a4 b4 w
  have HU := fun w (hA : DAt w oa n cap ⟨al, a1, a2, a3, a4, a5⟩) (hB : DAt w ob n' cap' ⟨bl, b1, b2, b3, b4, b5⟩) => cmpRow_any oa n cap al ob n' cap' bl w hA.ls hB.ls (by have := hA.b; omega) (by have := hB.b; omega)
  have HO := fun A w h0 h1 => or_any (cmpI a4 b4) (cmpR al bl) A w h0 h1
  dsimp only [aggD, dV] at *
  generalize cmpI a4 b4 = x at *
  generalize cmpR al bl = y at *
  generalize orI x y = r at *
  clear h h'
  go_enter Try.func8, Try.ntmps8
  go_upto_region 1 with fail
  generalize (w.alloc _).alloc _ = wr at *
  obtain ⟨I, hID⟩ : ∃ I : World → Prop, I = fun wx => (Vals wx w.heap.size 24 #[.slice oa n cap, .int .i64 a1, .int .i64 a2, .int .i64 a3, .int .i64 a4, .int .i64 a5] ∧ Vals wx (w.heap.size + 1) 24 #[.slice ob n' cap', .int .i64 b1, .int .i64 b2, .int .i64 b3, .int .i64 b4, .int .i64 b5]) ∧ (DAt wx oa n cap ⟨al, a1, a2, a3, a4, a5⟩ ∧ DAt wx ob n' cap' ⟨bl, b1, b2, b3, b4, b5⟩) ∧ (w.heap.size ≤ wx.heap.size ∧ Below w.heap.size w wx) := ⟨_, rfl⟩
  have st : Hid (Stable I) := by
    show Stable I
    rw [hID]
    exact ((Stable.vals _ _ _).and (Stable.vals _ _ _)).and (((Stable.dat _ _ _ _).and (Stable.dat _ _ _ _)).and (Stable.below _ _))
  have gI : Hid (∀ wx, I wx → (Vals wx w.heap.size 24 #[.slice oa n cap, .int .i64 a1, .int .i64 a2, .int .i64 a3, .int .i64 a4, .int .i64 a5] ∧ Vals wx (w.heap.size + 1) 24 #[.slice ob n' cap', .int .i64 b1, .int .i64 b2, .int .i64 b3, .int .i64 b4, .int .i64 b5]) ∧ (DAt wx oa n cap ⟨al, a1, a2, a3, a4, a5⟩ ∧ DAt wx ob n' cap' ⟨bl, b1, b2, b3, b4, b5⟩) ∧ (w.heap.size ≤ wx.heap.size ∧ Below w.heap.size w wx)) := by intro wx h; rw [hID] at h; exact h
  have hI0 : I wr := by rw [hID]; exact ⟨⟨V1, V2⟩, ⟨hA, hB⟩, B3.size, B3⟩
  have hId := st.out.drew hI0
  haveI ne : Nonempty (Cls I) := ⟨⟨_, hId⟩⟩
  clear hID hI0 V1 V2 B3 hA hB
  have p0 : ∀ x : Cls I, x.w.cell? ⟨w.heap.size, 0, none⟩ = some (.slice oa n cap) := fun x => (gI.out _ x.is).1.1.cell 0
  have p4 : ∀ x : Cls I, x.w.cell? ⟨w.heap.size, 4, none⟩ = some (.int .i64 a4) := fun x => (gI.out _ x.is).1.1.cell 4
  have q0 : ∀ x : Cls I, x.w.cell? ⟨w.heap.size + 1, 0, none⟩ = some (.slice ob n' cap') := fun x => (gI.out _ x.is).1.2.cell 0
  have q4 : ∀ x : Cls I, x.w.cell? ⟨w.heap.size + 1, 4, none⟩ = some (.int .i64 b4) := fun x => (gI.out _ x.is).1.2.cell 4
  have K1 : Hid (∀ z : Cls I, Calls Try.prog 21 #[.int .i64 a4, .int .i64 b4] z.w fun e w'' => e = .returned (.int .i64 x) ∧ ∃ y : Cls I, w'' = y.w) := fun z => class_same (HT z.w)
  have K2 : Hid (∀ z : Cls I, Calls Try.prog 22 #[.slice oa n cap, .slice ob n' cap', .func (.func 23) #[] #[]] z.w fun e w'' => e = .returned (.int .i64 y) ∧ ∃ y : Cls I, w'' = y.w) := fun z => class_of st.out (HU z.w (gI.out _ z.is).2.1.1 (gI.out _ z.is).2.1.2)
  clear HT HU
  refine wp_region_class_tail I 10 (by kernel_rfl) (by kernel_rfl) hId ?_
  simp only [List.take_succ_cons, List.take_zero, List.drop_succ_cons, List.drop_zero]
  iterate 5 (go_big_quiet_step (exact K1.out _))
  iterate 5 (go_big_quiet_step (exact K2.out _))
  refine wpQuiet_nil ?_
  rintro _ ⟨xx, rfl⟩
  clear p0 p4 q0 q4 K1 K2 hId
  obtain ⟨_, _, hW, B2⟩ := gI.out _ xx.is
  generalize xx.w = W2 at *
  clear ne gI st xx I
  have B4 := B2.alloc hW (.cells #[.int .i64 x, .int .i64 y] 3)
  have HO2 := HO W2.heap.size (W2.alloc (.cells #[.int .i64 x, .int .i64 y] 3)) (by simp) (by simp)
  clear HO
  go_wp2_with fail
  refine HO2.mono ?_
  rintro e w5 ⟨rfl, rfl⟩
  go_wp2_with fail
  go_ret
  exact ⟨rfl, B4⟩
end Go.Proofs.Ytaiacohnhhicpaa
