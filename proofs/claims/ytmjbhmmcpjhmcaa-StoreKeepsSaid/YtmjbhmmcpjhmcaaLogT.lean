/-
  A record more.
-/
import Derived.Test.YtmjbhmmcpjhmcaaLogO
import Derived.Test.YtmjbhmmcpjhmcaaTaken
import Derived.Deep.DrawnRows
namespace Go.Proofs.Ytmjbhmmcpjhmcaa
open Go.RowKit
set_option linter.unusedVariables false
attribute [local go_sem ↓] Go.wp_at_zero Go.wp_at_succ

set_option maxHeartbeats 800000 in
/-- a store is stored -/
theorem wp_store5 {a : Act} {w : World} {A : Nat} {p q : Tmp} {v0 : Value} {ob : Option Addr} {n m : Nat} {g u t g0 u0 t0 : Int} {d d0 : Bool} {ty : TypeId} {pos : String} {af : Array Edge} {K : Act → World → Prop} {Q : Exit → Act → World → Prop}
    (hx : a.tmps[p]?.getD undef = .pointer (some ⟨A, 0, none⟩)) (hy : a.tmps[q]?.getD undef = .agg #[.slice ob n m, .int .i64 g, .int .i64 u, .int .i64 t, .bool d])
    (hA : SRow w A v0 g0 u0 t0 d0) (h : K (a.put none undef) (put5 w A (.slice ob n m) g u t d)) : Oper.wp Try.prog ⟨none, .store 26 (.tmp p) (.tmp q), ty, pos, af, none⟩ a w K Q := by
  obtain ⟨v0, v1, v2, v3, v4⟩ : _ ∧ _ ∧ _ ∧ _ ∧ _ := ⟨hA.at0, hA.mids.1, hA.mids.2.1, hA.mids.2.2, hA.at4⟩
  have vf := hA.free
  clear hA
  unfold put5 at h
  go_simp
  exact h
set_option maxHeartbeats 800000 in
/-- a store is loaded -/
theorem wp_load5 {a : Act} {w : World} {A : Nat} {p q : Tmp} {ob : Option Addr} {n m : Nat} {g u t : Int} {d : Bool} {ty : TypeId} {pos : String} {af : Array Edge} {K : Act → World → Prop} {Q : Exit → Act → World → Prop}
    (hx : a.tmps[p]?.getD undef = .pointer (some ⟨A, 0, none⟩)) (hA : SRow w A (.slice ob n m) g u t d) (h : K (a.put (some q) (.agg #[.slice ob n m, .int .i64 g, .int .i64 u, .int .i64 t, .bool d])) w) : Oper.wp Try.prog ⟨some q, .load 26 (.tmp p), ty, pos, af, none⟩ a w K Q := by
  obtain ⟨v0, v1, v2, v3, v4⟩ : _ ∧ _ ∧ _ ∧ _ ∧ _ := ⟨hA.at0, hA.mids.1, hA.mids.2.1, hA.mids.2.2, hA.at4⟩
  clear hA
  go_simp
  exact h
/-- why no record is written, or 0 -/
def appE (S : St) (p : ByteArray) (f : Int × Int) : Int :=
  if stoB S.ss S.g S.u S.t && faultB f then (if longB p then 2 else if S.d then 9 else if S.u = roomZ S.ss then 5 else 0) else 1
/-- the write -/
def appM (S : St) (p : ByteArray) (f : Int × Int) : List ByteArray × Bool × Int := wrM S.ss S.d [(recN S.ss S.g S.u.toNat, sealS S.g (S.u + 1) p)] [f]
/-- the store behind it -/
def appS (S : St) (p : ByteArray) (f : Int × Int) : St :=
  if appE S p f = 0 then ⟨(appM S p f).1, S.g, if (appM S p f).2.2 = 0 then S.u + 1 else S.u, S.t, (appM S p f).2.1⟩ else St.zero
def appW (S : St) (p : ByteArray) (f : Int × Int) : Int := if appE S p f = 0 then (appM S p f).2.2 else appE S p f
theorem app_no {S : St} {p : ByteArray} {f : Int × Int} {er : Int} (h : appE S p f = er) (hne : er ≠ 0) : St.zero = appS S p f ∧ er = appW S p f := by
  unfold appS appW
  rw [h, if_neg hne, if_neg hne]
  exact ⟨rfl, rfl⟩
theorem sto_iff (ss : List ByteArray) (g u t : Int) : stoB ss g u t = true ↔ logB ss = true ∧ 1 ≤ g ∧ g ≤ 250 ∧ 0 ≤ u ∧ u ≤ roomZ ss ∧ g ≤ t ∧ t ≤ 250 := by
  unfold stoB withinB
  simp only [Bool.and_eq_true, decide_eq_true_eq, and_assoc]
/-- a store's variable, and its disk -/
structure SVar (w : World) (A : Nat) (oa : Option Addr) (n cap : Nat) (S : St) : Prop where
  row : SRow w A (.slice oa n cap) S.g S.u S.t S.d
  rd : Rd w oa n cap S.ss
theorem SVar.keep {w w' : World} {A : Nat} {oa : Option Addr} {n cap : Nat} {S : St} (h : SVar w A oa n cap S) (hB : Below w.heap.size w w') : SVar w' A oa n cap S := ⟨h.row.keep hB, h.rd.below hB (Nat.le_refl _)⟩
theorem SVar.new {w : World} {oa : Option Addr} {n cap : Nat} {S : St} (h : Rd w oa n cap S.ss) : SVar (w.alloc (.cells #[.slice oa n cap, .int .i64 S.g, .int .i64 S.u, .int .i64 S.t, .bool S.d] 26)) w.heap.size oa n cap S :=
  ⟨heap_alloc_new w _, h.below (below_alloc w _) (Nat.le_refl _)⟩
theorem Stable.svar (A : Nat) (oa : Option Addr) (n cap : Nat) (S : St) : Stable (fun w => SVar w A oa n cap S) := fun _ _ h hB => h.keep hB
theorem SVar.cells {w : World} {A : Nat} {oa : Option Addr} {n cap : Nat} {S : St} (h : SVar w A oa n cap S) :
    w.cell? ⟨A, 0, none⟩ = some (.slice oa n cap) ∧ w.cell? ⟨A, 1, none⟩ = some (.int .i64 S.g) ∧ w.cell? ⟨A, 2, none⟩ = some (.int .i64 S.u) ∧ w.cell? ⟨A, 3, none⟩ = some (.int .i64 S.t) ∧ w.cell? ⟨A, 4, none⟩ = some (.bool S.d) :=
  ⟨h.row.at0, h.row.mids.1, h.row.mids.2.1, h.row.mids.2.2, h.row.at4⟩
theorem FRd.one (w : World) (f : Int × Int) : FRd (w.alloc (.cells #[.int .i64 f.1, .int .i64 f.2] 44)) (some ⟨w.heap.size, 0, none⟩) 1 1 [f] := by
  refine ⟨rfl, Nat.le_refl _, fun i hi => ?_⟩
  obtain rfl : i = 0 := by omega
  exact ⟨w.heap.size, 0, rfl, World.cell?_alloc_at _ _ _ _ rfl, World.cell?_alloc_at _ _ _ _ rfl⟩
theorem PRd.keep {w w' : World} {oa : Option Addr} {n cap : Nat} {ps : List (Nat × ByteArray)} (h : PRd w oa n cap ps) (hB : Below w.heap.size w w') : PRd w' oa n cap ps := h.below hB (Nat.le_refl _)
theorem FRd.keep {w w' : World} {oa : Option Addr} {n cap : Nat} {fs : List (Int × Int)} (h : FRd w oa n cap fs) (hB : Below w.heap.size w w') : FRd w' oa n cap fs := h.below hB (Nat.le_refl _)
theorem SVar.put {w : World} {A : Nat} {oa : Option Addr} {n cap : Nat} {S : St} (h : SVar w A oa n cap S) {ob : Option Addr} {m c : Nat} {ss : List ByteArray} (hR : Rd w ob m c ss) (g u t : Int) (d : Bool) : SVar (put5 w A (.slice ob m c) g u t d) A ob m c ⟨ss, g, u, t, d⟩ :=
  ⟨h.row.put _ _ _ _ _, hR.put h.row ⟨_, _, _, rfl⟩ _ _ _ _ _⟩
theorem SRow.aside {w : World} {A B : Nat} {x : Value} {g u t : Int} {d : Bool} (h : SRow w B x g u t d) (hne : B ≠ A) (y : Value) (g' u' t' : Int) (d' : Bool) : SRow (put5 w A y g' u' t' d') B x g u t d := by
  unfold SRow
  rw [put_other w A y g' u' t' d' B hne]
  exact h
theorem SRow.set2 {w : World} {A : Nat} {x : Value} {g u t : Int} {d : Bool} (h : SRow w A x g u t d) (v : Int) : SRow (w.setCell ⟨A, 2, none⟩ (.int .i64 v)) A x g v t d := by
  unfold SRow
  rw [heap_setCell_same _ _ _ _ _ _ h]
  rfl
theorem SRow.far {w : World} {A B : Nat} {x : Value} {g u t : Int} {d : Bool} (h : SRow w B x g u t d) (hne : B ≠ A) (i : Nat) (v : Value) : SRow (w.setCell ⟨A, i, none⟩ v) B x g u t d := by
  unfold SRow
  rw [Below.heap_setCell _ _ _ _ hne]
  exact h
theorem SVar.set2 {w : World} {A : Nat} {oa : Option Addr} {n cap : Nat} {S : St} (h : SVar w A oa n cap S) (v : Int) : SVar (w.setCell ⟨A, 2, none⟩ (.int .i64 v)) A oa n cap ⟨S.ss, S.g, v, S.t, S.d⟩ :=
  ⟨h.row.set2 v, h.rd.setInt h.row.mids.2.1 _⟩
/-- what stands in memory while a record is written: the store, the fault, and what is told -/
structure AppI (w0 : World) (oa : Option Addr) (n cap : Nat) (S : St) (f : Int × Int) (w : World) : Prop where
  var : SVar w w0.heap.size oa n cap S
  fault : w.heap[w0.heap.size + 1]? = some (.cells #[.int .i64 f.1, .int .i64 f.2] 44 (0, 0))
  res : SRow w (w0.heap.size + 1 + 1) (.slice none 0 0) 0 0 0 false
  below : Below w0.heap.size w0 w
theorem AppI.stable (w0 : World) (oa : Option Addr) (n cap : Nat) (S : St) (f : Int × Int) : Stable (AppI w0 oa n cap S f) :=
  fun _ _ h hB => ⟨h.var.keep hB, keepB hB h.fault, h.res.keep hB, h.below.trans (hB.mono h.below.size)⟩
theorem AppI.cells {w0 : World} {oa : Option Addr} {n cap : Nat} {S : St} {f : Int × Int} {w : World} (h : AppI w0 oa n cap S f w) :
    w.cell? ⟨w0.heap.size + 1, 0, none⟩ = some (.int .i64 f.1) ∧ w.cell? ⟨w0.heap.size + 1, 1, none⟩ = some (.int .i64 f.2) := by
  constructor <;> rw [cell_of_row w _ _ _ _ _ h.fault] <;> rfl
theorem SRow.cells {w : World} {A : Nat} {x : Value} {g u t : Int} {d : Bool} (h : SRow w A x g u t d) :
    w.cell? ⟨A, 0, none⟩ = some x ∧ w.cell? ⟨A, 1, none⟩ = some (.int .i64 g) ∧ w.cell? ⟨A, 2, none⟩ = some (.int .i64 u) ∧ w.cell? ⟨A, 3, none⟩ = some (.int .i64 t) ∧ w.cell? ⟨A, 4, none⟩ = some (.bool d) :=
  ⟨h.at0, h.mids.1, h.mids.2.1, h.mids.2.2, h.at4⟩
theorem appE_1 {S : St} {p : ByteArray} {f : Int × Int} (h : stoB S.ss S.g S.u S.t = false) : appE S p f = 1 := by unfold appE; rw [h]; rfl
theorem appE_2 {S : St} {p : ByteArray} {f : Int × Int} (h : stoB S.ss S.g S.u S.t = true) (h2 : faultB f = false) : appE S p f = 1 := by unfold appE; rw [h, h2]; rfl
theorem appE_3 {S : St} {p : ByteArray} {f : Int × Int} (h : stoB S.ss S.g S.u S.t = true) (h2 : faultB f = true) (h3 : longB p = true) : appE S p f = 2 := by unfold appE; rw [h, h2, h3]; rfl
theorem appE_4 {S : St} {p : ByteArray} {f : Int × Int} (h : stoB S.ss S.g S.u S.t = true) (h2 : faultB f = true) (h3 : longB p = false) (h4 : S.d = true) : appE S p f = 9 := by unfold appE; rw [h, h2, h3, h4]; rfl
theorem appE_5 {S : St} {p : ByteArray} {f : Int × Int} (h : stoB S.ss S.g S.u S.t = true) (h2 : faultB f = true) (h3 : longB p = false) (h4 : S.d = false) (h5 : S.u = roomZ S.ss) : appE S p f = 5 := by unfold appE; rw [h, h2, h3, h4, if_pos h5]; rfl
theorem appE_6 {S : St} {p : ByteArray} {f : Int × Int} (h : stoB S.ss S.g S.u S.t = true) (h2 : faultB f = true) (h3 : longB p = false) (h4 : S.d = false) (h5 : S.u ≠ roomZ S.ss) : appE S p f = 0 := by unfold appE; rw [h, h2, h3, h4, if_neg h5]; rfl
set_option maxRecDepth 100000 in
set_option maxHeartbeats 3200000 in
theorem append_any (oa : Option Addr) (n cap : Nat) (S : St) (p : ByteArray) (f : Int × Int) (w : World) (hR : Rd w oa n cap S.ss) (hn : n ≤ 1000) (hp : p.size ≤ maxLen) :
    Calls Try.prog 21 #[.agg #[.slice oa n cap, .int .i64 S.g, .int .i64 S.u, .int .i64 S.t, .bool S.d], .string p, .agg #[.int .i64 f.1, .int .i64 f.2]] w fun e w' => TellS e w' (appS S p f) (appW S p f) ∧ Below w.heap.size w w' := by
  obtain ⟨W0, hW0⟩ : ∃ W0, W0 = ((w.alloc (.cells #[.slice oa n cap, .int .i64 S.g, .int .i64 S.u, .int .i64 S.t, .bool S.d] 26)).alloc (.cells #[.int .i64 f.1, .int .i64 f.2] 44)).alloc (.cells #[.slice none 0 0, .int .i64 0, .int .i64 0, .int .i64 0, .bool false] 26) := ⟨_, rfl⟩
  have hI : AppI w oa n cap S f W0 := by
    refine ⟨?_, ?_, ?_, ?_⟩
    · rw [hW0]; exact ((SVar.new hR).keep (below_alloc _ _)).keep (below_alloc _ _)
    · rw [hW0, Below.heap_alloc _ _ _ (by simp)]
      have := heap_alloc_new (w.alloc (.cells #[.slice oa n cap, .int .i64 S.g, .int .i64 S.u, .int .i64 S.t, .bool S.d] 26)) (.cells #[.int .i64 f.1, .int .i64 f.2] 44)
      simpa using this
    · unfold SRow
      rw [hW0]
      have := heap_alloc_new ((w.alloc (.cells #[.slice oa n cap, .int .i64 S.g, .int .i64 S.u, .int .i64 S.t, .bool S.d] 26)).alloc (.cells #[.int .i64 f.1, .int .i64 f.2] 44)) (.cells #[.slice none 0 0, .int .i64 0, .int .i64 0, .int .i64 0, .bool false] 26)
      simpa using this
    · rw [hW0]; exact ((below_alloc w _).alloc (by simp) _).alloc (by simp; omega) _
  have HW := Lib.hid hW0
  clear hW0
  have hlen := Lib.hid hR.len
  obtain ⟨I, hID⟩ : ∃ I : World → Prop, I = AppI w oa n cap S f := ⟨_, rfl⟩
  have st : Hid (Stable I) := by rw [hID]; exact AppI.stable w oa n cap S f
  have gI : Hid (∀ wx, I wx → AppI w oa n cap S f wx) := by intro wx h; rw [hID] at h; exact h
  have hI0 : I W0 := by rw [hID]; exact hI
  clear hID hR
  obtain ⟨v0, v1, v2, v3, v4⟩ := hI.var.cells
  have hw0 : w.heap.size ≤ w.heap.size + 1 + 1 := by omega
  have R1 := Lib.hid (right4_any oa n cap S.ss S.g S.u S.t S.d W0 hI.var.rd hn)
  clear hI
  go_enter Try.func21, Try.ntmps21
  go_wp2_with fail
  rw [← HW.out]
  clear HW
  refine R1.out.mono ?_
  rintro e w1 ⟨rfl, hB⟩
  have hI1 := st.out _ _ hI0 hB
  clear v0 v1 v2 v3 v4 hB R1 hI0
  cases b1 : stoB S.ss S.g S.u S.t
  · have HE := Lib.hid (app_no (appE_1 (p := p) (f := f) b1) (by decide))
    clear b1
    have J := gI.out _ hI1
    obtain ⟨p0, p1, p2, p3, p4⟩ := J.res.cells
    have pf := J.res.free
    go_wp2_with fail
    refine tell_at HE.out.1 HE.out.2 ?_
    exact end_none rfl rfl rfl J.res J.below hw0
  have B1 := Lib.hid b1
  clear b1
  obtain ⟨f0, f1⟩ := (gI.out _ hI1).cells
  go_wp2_with fail
  refine (isNoFault_any f _).mono ?_
  rintro e w2 ⟨rfl, hB⟩
  have hI2 := st.out _ _ hI1 hB
  clear f0 f1 hB hI1
  cases b2 : faultB f
  · have HE := Lib.hid (app_no (appE_2 (p := p) B1.out b2) (by decide))
    clear b2
    have J := gI.out _ hI2
    obtain ⟨p0, p1, p2, p3, p4⟩ := J.res.cells
    have pf := J.res.free
    go_wp2_with fail
    refine tell_at HE.out.1 HE.out.2 ?_
    exact end_none rfl rfl rfl J.res J.below hw0
  have B2 := Lib.hid b2
  clear b2
  go_wp2_with fail
  refine (isTooLong_any p _ hp).mono ?_
  rintro e w3 ⟨rfl, rfl⟩
  cases b3 : longB p
  rotate_left
  · have HE := Lib.hid (app_no (appE_3 B1.out B2.out b3) (by decide))
    clear b3
    have J := gI.out _ hI2
    obtain ⟨p0, p1, p2, p3, p4⟩ := J.res.cells
    have pf := J.res.free
    go_wp2_with fail
    refine tell_at HE.out.1 HE.out.2 ?_
    exact end_none rfl rfl rfl J.res J.below hw0
  have B3 := Lib.hid b3
  clear b3
  have v4 := (gI.out _ hI2).var.row.at4
  cases b4 : S.d
  rotate_left
  · have HE := Lib.hid (app_no (appE_4 B1.out B2.out B3.out b4) (by decide))
    rw [b4] at v4
    clear b4
    have J := gI.out _ hI2
    obtain ⟨p0, p1, p2, p3, p4⟩ := J.res.cells
    have pf := J.res.free
    clear p4
    have p4 := J.res.at4
    go_wp2_with fail
    refine tell_at HE.out.1 HE.out.2 ?_
    exact end_none rfl rfl rfl J.res J.below hw0
  rw [b4] at v4
  have B4 := Lib.hid b4
  clear b4
  go_wp2_with fail
  have hId := st.out.drew hI2
  haveI : Nonempty (Cls I) := ⟨⟨_, hId⟩⟩
  have gC0 : ∀ x : Cls I, x.w.cell? ⟨w.heap.size, 0, none⟩ = some (.slice oa n cap) := fun x => (gI.out _ x.is).var.cells.1
  have gC2 : ∀ x : Cls I, x.w.cell? ⟨w.heap.size, 2, none⟩ = some (.int .i64 S.u) := fun x => (gI.out _ x.is).var.cells.2.2.1
  have K2 : Hid (∀ x : Cls I, Calls Try.prog 41 #[.agg #[.slice oa n cap]] x.w fun e w'' => e = .returned (.int .i64 (roomZ S.ss)) ∧ ∃ y : Cls I, w'' = y.w) :=
    fun x => class_of st.out (room_any _ _ _ S.ss _ hlen.out hn)
  by_cases b5 : S.u = roomZ S.ss
  · have HE := Lib.hid (app_no (appE_5 B1.out B2.out B3.out B4.out b5) (by decide))
    have b5' : (S.u == roomZ S.ss) = true := by rw [beq_iff_eq]; exact b5
    clear b5
    refine wp_region_class I (by kernel_rfl) (by kernel_rfl) hId ?_
    repeat (go_big_quiet_step (first | exact K2.out _))
    refine wpQuiet_nil ?_
    rintro _ ⟨x, rfl⟩
    have J := gI.out _ x.is
    clear gC0 gC2 K2 v4
    obtain ⟨wx, hwx⟩ := x
    dsimp only at J ⊢
    obtain ⟨p0, p1, p2, p3, p4⟩ := J.res.cells
    have pf := J.res.free
    go_wp2_with fail
    refine tell_at HE.out.1 HE.out.2 ?_
    exact end_none rfl rfl rfl J.res J.below hw0
  have B5 := Lib.hid b5
  have b5' : (S.u == roomZ S.ss) = false := by rw [beq_eq_false_iff_ne]; exact b5
  clear b5
  refine wp_region_class I (by kernel_rfl) (by kernel_rfl) hId ?_
  repeat (go_big_quiet_step (first | exact K2.out _))
  refine wpQuiet_nil ?_
  rintro _ ⟨x, rfl⟩
  clear gC0 gC2 K2 v4
  obtain ⟨wx, hI3⟩ := x
  dsimp only
  clear hId b5'
  go_wp2_with fail
  refine wp_region_taken I 12 (by kernel_rfl) ?_
  have hI4 := st.out.drew hI3
  clear hI3
  generalize wx.drew = wd at *
  refine wpT_take (i := 0) (v := .agg #[.slice oa n cap, .int .i64 S.g, .int .i64 S.u, .int .i64 S.t, .bool false]) rfl (by kernel_rfl) (by kernel_rfl) (by kernel_rfl) (fun _ _ _ h => h) (Or.inl ⟨by rfl, fun v hv => ?_⟩) hI4 ?_
  · obtain ⟨v0, v1, v2, v3, v4⟩ := (gI.out _ hv).var.cells
    rw [B4.out] at v4
    go_simp
  refine wpT_take (i := 1) (v := .pointer (some ⟨w.heap.size, 0, none⟩)) rfl (by kernel_rfl) (by kernel_rfl) (by kernel_rfl) (fun _ _ _ h => h) (Or.inl ⟨by rfl, fun v hv => by go_simp⟩) hI4 ?_
  refine wpT_take (i := 2) (v := .agg #[.slice oa n cap]) rfl (by kernel_rfl) (by kernel_rfl) (by kernel_rfl) (fun _ _ _ h => h) (Or.inl ⟨by rfl, fun v hv => ?_⟩) hI4 ?_
  · obtain ⟨v0, v1, v2, v3, v4⟩ := (gI.out _ hv).var.cells
    go_simp
  refine wpT_take (i := 3) (v := .pointer (some ⟨w.heap.size, 1, none⟩)) rfl (by kernel_rfl) (by kernel_rfl) (by kernel_rfl) (fun _ _ _ h => h) (Or.inl ⟨by rfl, fun v hv => by go_simp⟩) hI4 ?_
  refine wpT_take (i := 4) (v := .int .i64 S.g) rfl (by kernel_rfl) (by kernel_rfl) (by kernel_rfl) (fun _ _ _ h => h) (Or.inl ⟨by rfl, fun v hv => ?_⟩) hI4 ?_
  · obtain ⟨v0, v1, v2, v3, v4⟩ := (gI.out _ hv).var.cells
    go_simp
  refine wpT_take (i := 5) (v := .pointer (some ⟨w.heap.size, 2, none⟩)) rfl (by kernel_rfl) (by kernel_rfl) (by kernel_rfl) (fun _ _ _ h => h) (Or.inl ⟨by rfl, fun v hv => by go_simp⟩) hI4 ?_
  refine wpT_take (i := 6) (v := .int .i64 S.u) rfl (by kernel_rfl) (by kernel_rfl) (by kernel_rfl) (fun _ _ _ h => h) (Or.inl ⟨by rfl, fun v hv => ?_⟩) hI4 ?_
  · obtain ⟨v0, v1, v2, v3, v4⟩ := (gI.out _ hv).var.cells
    go_simp
  refine wpT_take (i := 7) (v := .string p) rfl (by kernel_rfl) (by kernel_rfl) (by kernel_rfl) (fun _ _ _ h => h) (Or.inl ⟨by rfl, fun v hv => by go_simp⟩) hI4 ?_
  refine wpT_take (i := 10) (v := .agg #[.int .i64 f.1, .int .i64 f.2]) rfl (by kernel_rfl) (by kernel_rfl) (by kernel_rfl) (fun _ _ _ h => h) (Or.inl ⟨by rfl, fun v hv => ?_⟩) hI4 ?_
  · obtain ⟨f0, f1⟩ := (gI.out _ hv).cells
    go_simp
  have HF := Lib.hid ((sto_iff _ _ _ _).1 B1.out)
  obtain ⟨hL, hg1, hg2, hu1, hu2, ht1, ht2⟩ := HF.out
  have hre := room_eq hL
  obtain ⟨k, hk⟩ := Int.eq_ofNat_of_zero_le hu1
  have hkr : k < roomN S.ss := by have := B5.out; omega
  have hpz : p.size ≤ 96 := by
    have := B3.out
    unfold longB at this
    have := of_decide_eq_false this
    omega
  have HR : Hid (∀ wx : World, Calls Try.prog 51 #[.agg #[.slice oa n cap], .int .i64 S.g, .int .i64 S.u, .string p] wx fun e w' => e = .returned (.agg #[.int .i64 (recN S.ss S.g S.u.toNat : Int), .string (sealS S.g (S.u + 1) p)]) ∧ Below wx.heap.size wx w') := by
    intro wx
    have := record_any oa n cap S.ss S.g S.u p wx hlen.out hn hg1 hg2 hu1 (by omega) hpz
    rw [hk, (rec_eq hL S.g k hkr).1] at this
    rw [hk]
    exact this
  have HP : Hid (∀ q ∈ [(recN S.ss S.g S.u.toNat, sealS S.g (S.u + 1) p)], q.1 < S.ss.length ∧ q.2.size = 128) := by
    intro q hq
    simp at hq
    subst hq
    refine ⟨?_, (fits_rec hg1 hg2 hu1 (by omega) hpz).len⟩
    show recN S.ss S.g S.u.toNat < _
    rw [show S.u.toNat = k by omega]
    exact (rec_eq hL S.g k hkr).2.1
  have HFA : Hid (∀ q ∈ [f], faultB q = true) := by
    intro q hq
    simp at hq
    subst hq
    exact B2.out
  have HLg := Lib.hid hL
  clear hL hg1 hg2 hu1 hu2 ht1 ht2 hre hk hkr hpz
  generalize hT : sealS S.g (S.u + 1) p = T at *
  generalize hN : recN S.ss S.g S.u.toNat = r at *
  have HT := Lib.hid hT
  have HN := Lib.hid hN
  clear hT hN
  obtain ⟨M, hM⟩ : ∃ M, M = wrM S.ss false [(r, T)] [f] := ⟨_, rfl⟩
  have HM : Hid (appM S p f = M) := by show _ = _; unfold appM; rw [B4.out, HT.out, HN.out, hM]
  have HWR : Hid (∀ (V : World) (x y : Nat), I V → PRd V (some ⟨x, 0, none⟩) 1 1 [(r, T)] → FRd V (some ⟨y, 0, none⟩) 1 1 [f] →
      Calls Try.prog 34 #[.agg #[.slice oa n cap, .int .i64 S.g, .int .i64 S.u, .int .i64 S.t, .bool false], .slice (some ⟨x, 0, none⟩) 1 1, .slice (some ⟨y, 0, none⟩) 1 1] V fun e w' => ToldS e w' n M.1 S.g S.u S.t M.2.1 M.2.2 ∧ Below V.heap.size V w') := by
    intro V x y hV hP hF
    rw [hM]
    exact written_any oa n cap S.ss S.g S.u S.t false _ 1 1 [(r, T)] _ 1 1 [f] V (gI.out _ hV).var.rd HLg.out hP (by omega) HP.out hF (by omega) HFA.out
  clear hM HP HFA HLg
  refine wpT_ready (rs := [8, 11]) (by kernel_rfl) (by simp) ?_
  refine AllT.cons rfl (fun K hK => ?_) (AllT.cons rfl (fun K hK => ?_) AllT.nil)
  -- the record, and then its row, or the faults' row
  go_simp
  refine (HR.out _).mono ?_
  rintro e w5 ⟨rfl, hB5⟩
  have hI5 := st.out _ _ hI4 hB5
  refine hK _ _ (fun _ => hI5) ?_
  clear hK K hB5
  refine wpT_ready (rs := [9, 11]) (by kernel_rfl) (by simp) ?_
  refine AllT.cons rfl (fun K hK => ?_) (AllT.cons rfl (fun K hK => ?_) AllT.nil)
  go_simp
  obtain ⟨W6, hW6⟩ : ∃ W6, W6 = w5.alloc (.cells #[.int .i64 (r : Int), .string T] 67) := ⟨_, rfl⟩
  rw [← hW6]
  have hI6 := st.out _ _ hI5 (hW6 ▸ below_alloc w5 _)
  have hP6 : PRd W6 (some ⟨w5.heap.size, 0, none⟩) 1 1 [(r, T)] := hW6 ▸ PRd.one w5 r T
  refine hK _ _ (fun _ => hI6) ?_
  clear hK K hW6
  refine wpT_ready (rs := [11]) (by kernel_rfl) (by simp) ?_
  refine AllT.cons rfl (fun K hK => ?_) AllT.nil
  go_simp
  obtain ⟨W7, hW7⟩ : ∃ W7, W7 = W6.alloc (.cells #[.int .i64 f.1, .int .i64 f.2] 44) := ⟨_, rfl⟩
  rw [← hW7]
  have hI7 := st.out _ _ hI6 (hW7 ▸ below_alloc W6 _)
  have hP7 := hP6.keep (hW7 ▸ below_alloc W6 (.cells #[.int .i64 f.1, .int .i64 f.2] 44))
  have hF7 : FRd W7 (some ⟨W6.heap.size, 0, none⟩) 1 1 [f] := hW7 ▸ FRd.one W6 f
  refine hK _ _ (fun _ => hI7) ?_
  clear hK K hW7 hI6 hP6 hI5
  rotate_left
  -- the record, the faults' row, the record's row
  go_simp
  obtain ⟨W6, hW6⟩ : ∃ W6, W6 = w5.alloc (.cells #[.int .i64 f.1, .int .i64 f.2] 44) := ⟨_, rfl⟩
  rw [← hW6]
  have hI6 := st.out _ _ hI5 (hW6 ▸ below_alloc w5 _)
  have hF6 : FRd W6 (some ⟨w5.heap.size, 0, none⟩) 1 1 [f] := hW6 ▸ FRd.one w5 f
  refine hK _ _ (fun _ => hI6) ?_
  clear hK K hW6
  refine wpT_ready (rs := [9]) (by kernel_rfl) (by simp) ?_
  refine AllT.cons rfl (fun K hK => ?_) AllT.nil
  go_simp
  obtain ⟨W7, hW7⟩ : ∃ W7, W7 = W6.alloc (.cells #[.int .i64 (r : Int), .string T] 67) := ⟨_, rfl⟩
  rw [← hW7]
  have hI7 := st.out _ _ hI6 (hW7 ▸ below_alloc W6 _)
  have hF7 := hF6.keep (hW7 ▸ below_alloc W6 (.cells #[.int .i64 (r : Int), .string T] 67))
  have hP7 : PRd W7 (some ⟨W6.heap.size, 0, none⟩) 1 1 [(r, T)] := hW7 ▸ PRd.one W6 r T
  refine hK _ _ (fun _ => hI7) ?_
  clear hK K hW7 hI6 hF6 hI5
  rotate_left
  -- the faults' row, the record, its row
  go_simp
  obtain ⟨W5, hW5⟩ : ∃ W5, W5 = wd.alloc (.cells #[.int .i64 f.1, .int .i64 f.2] 44) := ⟨_, rfl⟩
  rw [← hW5]
  have hI5 := st.out _ _ hI4 (hW5 ▸ below_alloc wd _)
  have hF5 : FRd W5 (some ⟨wd.heap.size, 0, none⟩) 1 1 [f] := hW5 ▸ FRd.one wd f
  refine hK _ _ (fun _ => hI5) ?_
  clear hK K hW5
  refine wpT_ready (rs := [8]) (by kernel_rfl) (by simp) ?_
  refine AllT.cons rfl (fun K hK => ?_) AllT.nil
  go_simp
  refine (HR.out _).mono ?_
  rintro e W6 ⟨rfl, hB6⟩
  have hI6 := st.out _ _ hI5 hB6
  have hF6 := hF5.keep hB6
  refine hK _ _ (fun _ => hI6) ?_
  clear hK K hB6
  refine wpT_ready (rs := [9]) (by kernel_rfl) (by simp) ?_
  refine AllT.cons rfl (fun K hK => ?_) AllT.nil
  go_simp
  obtain ⟨W7, hW7⟩ : ∃ W7, W7 = W6.alloc (.cells #[.int .i64 (r : Int), .string T] 67) := ⟨_, rfl⟩
  rw [← hW7]
  have hI7 := st.out _ _ hI6 (hW7 ▸ below_alloc W6 _)
  have hF7 := hF6.keep (hW7 ▸ below_alloc W6 (.cells #[.int .i64 (r : Int), .string T] 67))
  have hP7 : PRd W7 (some ⟨W6.heap.size, 0, none⟩) 1 1 [(r, T)] := hW7 ▸ PRd.one W6 r T
  refine hK _ _ (fun _ => hI7) ?_
  clear hK K hW7 hI6 hF6 hI5
  all_goals
    refine wpT_ready (rs := [12]) (by kernel_rfl) (by simp) ?_
    refine AllT.cons rfl (fun K hK => ?_) AllT.nil
    go_simp
    refine (HWR.out _ _ _ hI7 hP7 hF7).mono ?_
    rintro e w8 ⟨⟨ob, m8, rfl, hR8⟩, hB8⟩
    have hI8 := st.out _ _ hI7 hB8
    have J8 := gI.out _ hI8
    refine hK _ _ (fun h => absurd h (by decide)) ?_
    clear hK K hB8 hI7 hP7 hF7
    refine wpT_behind (by kernel_rfl) ?_
    refine wpAny_take (i := 13) (v := .tuple #[.agg #[.slice ob n m8, .int .i64 S.g, .int .i64 S.u, .int .i64 S.t, .bool M.2.1], .int .i64 M.2.2]) rfl (by kernel_rfl) (by kernel_rfl) (by kernel_rfl) (fun _ _ _ h => h) (Or.inl ⟨by rfl, fun v => by go_simp⟩) ?_
    refine wpAny_take (i := 14) (v := .agg #[.slice ob n m8, .int .i64 S.g, .int .i64 S.u, .int .i64 S.t, .bool M.2.1]) rfl (by kernel_rfl) (by kernel_rfl) (by kernel_rfl) (fun _ _ _ h => h) (Or.inl ⟨by rfl, fun v => by go_simp⟩) ?_
    refine wpAny_take (i := 15) (v := .int .i64 M.2.2) rfl (by kernel_rfl) (by kernel_rfl) (by kernel_rfl) (fun _ _ _ h => h) (Or.inl ⟨by rfl, fun v => by go_simp⟩) ?_
    refine wpAny_ready (rs := [16]) (by kernel_rfl) (by simp) ?_
    refine AllReady.cons (o := ⟨none, .store 26 (.tmp 3) (.tmp 48), 0, _, _, none⟩) rfl (fun K hK => ?_) AllReady.nil
    rw [if_pos (show Region.wanted _ _ = true from rfl)]
    refine wp_store5 rfl rfl J8.var.row ?_
    obtain ⟨W9, hW9⟩ : ∃ W9, W9 = put5 w8 w.heap.size (.slice ob n m8) S.g S.u S.t M.2.1 := ⟨_, rfl⟩
    have V9 : SVar W9 w.heap.size ob n m8 ⟨M.1, S.g, S.u, S.t, M.2.1⟩ := hW9 ▸ J8.var.put hR8 _ _ _ _
    have R9 : SRow W9 (w.heap.size + 1 + 1) (.slice none 0 0) 0 0 0 false := hW9 ▸ J8.res.aside (by omega) _ _ _ _ _
    have B9 : Below w.heap.size w W9 := hW9 ▸ put_below J8.below (Nat.le_refl _) _ _ _ _ _
    rw [← hW9]
    refine hK _ _ ?_
    clear hK K hW9 J8 hI8 hR8
    refine wpAny_ready (rs := [17]) (by kernel_rfl) (by simp) ?_
    refine AllReady.cons rfl (fun K hK => ?_) AllReady.nil
    go_simp
    refine hK _ _ ?_
    clear hK K
    refine wpAny_done (by kernel_rfl) ?_ _
    obtain ⟨v0, v1, v2, v3, v4⟩ := V9.cells
    dsimp only at v1 v2 v3 v4
    obtain ⟨p0, p1, p2, p3, p4⟩ := R9.cells
    have pf := R9.free
    have vf := V9.row.free
    by_cases hz : M.2.2 = 0
    · have HE : Hid (appS S p f = ⟨M.1, S.g, S.u + 1, S.t, M.2.1⟩ ∧ appW S p f = 0) := by
        show _ ∧ _
        unfold appS appW
        rw [appE_6 B1.out B2.out B3.out B4.out B5.out, if_pos rfl, if_pos rfl, HM.out, hz, if_pos rfl]
        exact ⟨rfl, rfl⟩
      have hub : 0 ≤ S.u ∧ S.u ≤ 1000 := by
        have h1 := HF.out
        have h2 := room_eq h1.1
        omega
      obtain ⟨hub1, hub2⟩ := hub
      rw [hz]
      have HZ := Lib.hid hz
      clear hz
      have V10 := V9.set2 (S.u + 1)
      have R10 := R9.far (A := w.heap.size) (by omega) 2 (.int .i64 (S.u + 1))
      have B10 := B9.setCell (p := ⟨w.heap.size, 2, none⟩) (Nat.le_refl _) (.int .i64 (S.u + 1))
      obtain ⟨q0, q1, q2, q3, q4⟩ := V10.cells
      dsimp only at q1 q2 q3 q4
      obtain ⟨r0, r1, r2, r3, r4⟩ := R10.cells
      have rf := R10.free
      go_wp2_with fail
      refine tell_at HE.out.1.symm HE.out.2.symm ?_
      exact end_store rfl rfl rfl R10 ⟨_, _, _, rfl⟩ V10.rd B10 hw0
    · have HE : Hid (appS S p f = ⟨M.1, S.g, S.u, S.t, M.2.1⟩ ∧ appW S p f = M.2.2) := by
        show _ ∧ _
        unfold appS appW
        rw [appE_6 B1.out B2.out B3.out B4.out B5.out, if_pos rfl, if_pos rfl, HM.out, if_neg hz]
        exact ⟨rfl, rfl⟩
      have hz' : (M.2.2 == 0) = false := by rw [beq_eq_false_iff_ne]; exact hz
      clear hz
      go_wp2_with fail
      refine tell_at HE.out.1.symm HE.out.2.symm ?_
      exact end_store rfl rfl rfl R9 ⟨_, _, _, rfl⟩ V9.rd B9 hw0
end Go.Proofs.Ytmjbhmmcpjhmcaa
