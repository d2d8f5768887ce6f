/-
  WirePrints, walked.
-/
import Derived.Test.YthncfcjkpcjkiaaGreatDoorFew12
import Derived.Test.YthncfcjkpcjkiaaGreatDoorAlv12
import Derived.Test.YthncfcjkpcjkiaaGreatDoorWirJ
import Derived.Test.YthncfcjkpcjkiaaGreatDoorWirQ
namespace Go.Proofs.YthncfcjkpcjkiaaGreatDoor.wirePrints
open Go.Proofs.YthncfcjkpcjkiaaGreatDoor Go.RowKit Go.Shelf
set_option linter.unusedVariables false

/-- the document's own text of a message that may be -/
theorem ref_print (q f t : Int) (oa : Option Addr) (n cap : Nat) (ob : Option Addr) (nb cb : Nat) (l : List L2) (ms : List M3) (w : World) (hL : Ls w oa n cap l) (hM : Ms w ob nb cb ms) (hR : msgR (q, l, f, t, ms) = true) :
    Calls Tryz.prog 21 #[.agg (msgC q (.slice oa n cap) f t (.slice ob nb cb))] w fun e w' => e = .returned (.string (tx (printB (q, l, f, t, ms)))) ∧ Below w.heap.size w w' := by
  have hl := hL.len
  have hlm := hM.len
  rcases msgR_parts hR with ⟨rfl, hh⟩ | ⟨hq, hr⟩
  · obtain ⟨hf, ht, hm4, hS, _⟩ := hush_short hh
    unfold timeB at hf ht
    simp at hf ht
    obtain ⟨F, rfl⟩ : ∃ F : Nat, f = (F : Int) := ⟨f.toNat, by omega⟩
    obtain ⟨T, rfl⟩ : ∃ T : Nat, t = (T : Int) := ⟨t.toNat, by omega⟩
    rw [printB_hush]
    exact refPrint_hush F T (by omega) (by omega) oa n cap ob nb cb ms w hM (by omega) hS
  · obtain ⟨h3, hS, _⟩ := right_short hr
    rw [printB_alert q f t hq]
    exact refPrint_alert q f t hq oa n cap _ l w hL (by omega) hS ob nb cb rfl
/-- what two calls told, as letters -/
theorem told_print (R : Bool) (P : ByteArray) : ∃ (S : ByteArray) (E : Int), (if R = true then Value.tuple #[.string P, .int .i64 0] else Value.tuple #[.string ⟨#[]⟩, .int .i64 1]) = Value.tuple #[.string S, .int .i64 E] ∧ Hid ((R = true → S = P ∧ E = 0) ∧ (R = false → S = ⟨#[]⟩ ∧ E = 1)) := by
  cases R
  · exact ⟨⟨#[]⟩, 1, rfl, fun h => (by cases h), fun _ => ⟨rfl, rfl⟩⟩
  · exact ⟨P, 0, rfl, fun _ => ⟨rfl, rfl⟩, fun h => (by cases h)⟩
/-- behind the first statement: a message and a matcher cut short, in their boxes -/
def Cut1 (w wx : World) (A : Nat) (q f t : Int) (ls : List L2) (ms : List M3) (x : M3) : Prop := ∃ (pa : Option Addr) (n1 c1 : Nat) (pb : Option Addr) (n2 c2 : Nat),
  Vals wx A 27 (msgC q (.slice pa n1 c1) f t (.slice pb n2 c2)) ∧ Vals wx (A + 1) 32 #[.int .i64 (cutM x).1, .string (cutM x).2.1, .string (cutM x).2.2] ∧ Ls wx pa n1 c1 (few5 ls) ∧ Ms wx pb n2 c2 (few6 ms) ∧ Below w.heap.size w wx
theorem cut1_of {w wo : World} {A : Nat} {q f t : Int} {ls : List L2} {ms : List M3} {x : M3} {pa : Option Addr} {n1 c1 : Nat} {pb : Option Addr} {n2 c2 : Nat} {m0 m1 m2 m3 m4 z0 z1 z2 : Value} (hA : w.heap.size ≤ A)
    (VM : Vals wo A 27 #[m0, m1, m2, m3, m4]) (VX : Vals wo (A + 1) 32 #[z0, z1, z2]) (hL : Ls wo pa n1 c1 (few5 ls)) (hM : Ms wo pb n2 c2 (few6 ms))
    (hnA : ∀ g o, pa = some ⟨g, o, none⟩ → A + 2 ≤ g) (hnB : ∀ g o, pb = some ⟨g, o, none⟩ → A + 2 ≤ g) (B : Below w.heap.size w wo) :
    Cut1 w ((((((((wo.setCell ⟨A, 0, none⟩ (.int .i64 q)).setCell ⟨A, 1, none⟩ (.slice pa n1 c1)).setCell ⟨A, 2, none⟩ (.int .i64 f)).setCell ⟨A, 3, none⟩ (.int .i64 t)).setCell ⟨A, 4, none⟩ (.slice pb n2 c2)).setCell ⟨A + 1, 0, none⟩ (.int .i64 (cutM x).1)).setCell ⟨A + 1, 1, none⟩ (.string (cutM x).2.1)).setCell ⟨A + 1, 2, none⟩ (.string (cutM x).2.2)) A q f t ls ms x := by
  have V5 := VM.five (.int .i64 q) (.slice pa n1 c1) (.int .i64 f) (.int .i64 t) (.slice pb n2 c2)
  have hB5 := below_five B hA (.int .i64 q) (.slice pa n1 c1) (.int .i64 f) (.int .i64 t) (.slice pb n2 c2)
  have h5 := five_other wo A (.int .i64 q) (.slice pa n1 c1) (.int .i64 f) (.int .i64 t) (.slice pb n2 c2)
  generalize ((((wo.setCell ⟨A, 0, none⟩ (.int .i64 q)).setCell ⟨A, 1, none⟩ (.slice pa n1 c1)).setCell ⟨A, 2, none⟩ (.int .i64 f)).setCell ⟨A, 3, none⟩ (.int .i64 t)).setCell ⟨A, 4, none⟩ (.slice pb n2 c2) = W5 at *
  have VX5 : Vals W5 (A + 1) _ _ := (h5 (A + 1) (by omega)).trans VX
  have h3 := three_other W5 (A + 1) (.int .i64 (cutM x).1) (.string (cutM x).2.1) (.string (cutM x).2.2)
  have VX8 : Vals (((W5.setCell ⟨A + 1, 0, none⟩ (.int .i64 (cutM x).1)).setCell ⟨A + 1, 1, none⟩ (.string (cutM x).2.1)).setCell ⟨A + 1, 2, none⟩ (.string (cutM x).2.2)) (A + 1) 32 #[.int .i64 (cutM x).1, .string (cutM x).2.1, .string (cutM x).2.2] := by
    have := ((VX5.set 0 (.int .i64 (cutM x).1)).set 1 (.string (cutM x).2.1)).set 2 (.string (cutM x).2.2)
    simpa using this
  have hw : ∀ g, ¬ (g = A ∨ g = A + 1) → (((W5.setCell ⟨A + 1, 0, none⟩ (.int .i64 (cutM x).1)).setCell ⟨A + 1, 1, none⟩ (.string (cutM x).2.1)).setCell ⟨A + 1, 2, none⟩ (.string (cutM x).2.2)).heap[g]? = wo.heap[g]? := fun g hg => (h3 g (by omega)).trans (h5 g (by omega))
  refine ⟨pa, n1, c1, pb, n2, c2, (h3 A (by omega)).trans V5, VX8, hL.other (fun g o e => by have := hnA g o e; omega) hw, hM.other (fun g o e => by have := hnB g o e; omega) hw, ?_⟩
  exact ((hB5.setCell (p := ⟨A + 1, 0, none⟩) (by show _ ≤ A + 1; omega) _).setCell (p := ⟨A + 1, 1, none⟩) (by show _ ≤ A + 1; omega) _).setCell (p := ⟨A + 1, 2, none⟩) (by show _ ≤ A + 1; omega) _
set_option maxRecDepth 100000 in
set_option maxHeartbeats 12800000 in
theorem walk (q f t : Int) (oa : Option Addr) (n cap : Nat) (ls : List L2) (ob : Option Addr) (nb cb : Nat) (ms : List M3) (xk : Int) (xs xt : ByteArray) (w : World) (hL : Ls w oa n cap ls) (hM : Ms w ob nb cb ms) (hca : cap ≤ maxLen) (hcb : cb ≤ maxLen) (hT : Tabs w) :
    Calls Tryz.prog 4 #[.agg (msgC q (.slice oa n cap) f t (.slice ob nb cb)), aggM (xk, xs, xt)] w fun e w' => e = .returned (.bool true) ∧ Below w.heap.size w w' := by
  have hn1 : n ≤ 9223372036854775807 := by have := hL.room; unfold maxLen at hca; omega
  have hn2 : nb ≤ 9223372036854775807 := by have := hM.room; unfold maxLen at hcb; omega
  clear hca hcb
  dsimp only [aggM]
  have VM0 : Vals (w.alloc (.cells (msgC q (.slice oa n cap) f t (.slice ob nb cb)) 27)) w.heap.size 27 (msgC q (.slice oa n cap) f t (.slice ob nb cb)) := Vals.new w _ _
  have VM := VM0.alloc (.cells #[.int .i64 xk, .string xs, .string xt] 32)
  have VX := Vals.new (w.alloc (.cells (msgC q (.slice oa n cap) f t (.slice ob nb cb)) 27)) 32 #[.int .i64 xk, .string xs, .string xt]
  have B1 := (below_alloc w (.cells (msgC q (.slice oa n cap) f t (.slice ob nb cb)) 27)).alloc (by simp) (.cells #[.int .i64 xk, .string xs, .string xt] 32)
  have HF := fun w1 (B : Below w.heap.size w w1) => few_any q f t oa n cap ob nb cb ls ms w1 (hL.below B (Nat.le_refl _)) (hM.below B (Nat.le_refl _)) hn1 hn2
  have HO := fun w => one_any (xk, xs, xt) w
  dsimp only [aggM] at HO
  clear VM0 hn1 hn2 hL hM
  obtain ⟨A, hA⟩ : ∃ A, A = w.heap.size := ⟨_, rfl⟩
  have hsz : (w.alloc (.cells (msgC q (.slice oa n cap) f t (.slice ob nb cb)) 27)).heap.size = A + 1 := by rw [hA]; simp
  rw [hsz] at VX
  go_enter Tryz.func4, Tryz.ntmps4
  go_upto_region 1 with fail
  generalize (w.alloc (.cells (msgC q (.slice oa n cap) f t (.slice ob nb cb)) 27)).alloc (.cells #[.int .i64 xk, .string xs, .string xt] 32) = w1 at *
  rw [← hA] at VM
  rw [← hA]
  have hs1 : A + 2 ≤ w1.heap.size := VX.lt
  have HA := Lib.hid hA
  clear hA hsz
  have m0 : w1.cell? ⟨A, 0, none⟩ = some (.int .i64 q) := VM.cell 0
  have m1 : w1.cell? ⟨A, 1, none⟩ = some (.slice oa n cap) := VM.cell 1
  have m2 : w1.cell? ⟨A, 2, none⟩ = some (.int .i64 f) := VM.cell 2
  have m3 : w1.cell? ⟨A, 3, none⟩ = some (.int .i64 t) := VM.cell 3
  have m4 : w1.cell? ⟨A, 4, none⟩ = some (.slice ob nb cb) := VM.cell 4
  have x0 : w1.cell? ⟨A + 1, 0, none⟩ = some (.int .i64 xk) := VX.cell 0
  have x1 : w1.cell? ⟨A + 1, 1, none⟩ = some (.string xs) := VX.cell 1
  have x2 : w1.cell? ⟨A + 1, 2, none⟩ = some (.string xt) := VX.cell 2
  go_cut [9, 10, 11, 12] (fun _ _ _ _ wx => Cut1 w wx A q f t ls ms (xk, xs, xt))
  case first =>
    go_region_with (first
      | (go_at_call 13; refine (HF _ (by first | exact B1 | exact B1.drew)).mono ?_; rintro e wf ⟨⟨pa, n1, c1, pb, n2, c2, rfl, hL1, hM1, hnA, hnB⟩, Bf⟩; have VM := VM.keep (w := w1.drew) Bf (Nat.le_refl _); have VX := VX.keep (w := w1.drew) Bf (Nat.le_refl _); have m0 := keepR (w := w1.drew) Bf m0; have x0 := keepR (w := w1.drew) Bf x0; have x1 := keepR (w := w1.drew) Bf x1; have x2 := keepR (w := w1.drew) Bf x2; have B1 := B1.drew.trans (Bf.mono B1.drew.size))
      | (go_at_call 14; refine (HO _).mono ?_; rintro e wo ⟨rfl, Bo⟩; have VM := VM.keep Bo (Nat.le_refl _); have VX := VX.keep Bo (Nat.le_refl _); have hL1 := hL1.below Bo (Nat.le_refl _); have hM1 := hM1.below Bo (Nat.le_refl _); have B1 := B1.trans (Bo.mono B1.size); have m0 : wo.cell? ⟨A, 0, none⟩ = some (.int .i64 q) := VM.cell 0; have m1 : wo.cell? ⟨A, 1, none⟩ = some (.slice oa n cap) := VM.cell 1; have m2 : wo.cell? ⟨A, 2, none⟩ = some (.int .i64 f) := VM.cell 2; have m3 : wo.cell? ⟨A, 3, none⟩ = some (.int .i64 t) := VM.cell 3; have m4 : wo.cell? ⟨A, 4, none⟩ = some (.slice ob nb cb) := VM.cell 4; have f0 := VM.free 0; have f1 := VM.free 1; have f2 := VM.free 2; have f3 := VM.free 3; have f4 := VM.free 4; have y0 : wo.cell? ⟨A + 1, 0, none⟩ = some (.int .i64 xk) := VX.cell 0; have y1 : wo.cell? ⟨A + 1, 1, none⟩ = some (.string xs) := VX.cell 1; have y2 : wo.cell? ⟨A + 1, 2, none⟩ = some (.string xt) := VX.cell 2; have h0 := VX.free 0; have h1 := VX.free 1; have h2 := VX.free 2))
    all_goals
      have hR := cut1_of (q := q) (f := f) (t := t) (x := (xk, xs, xt)) (Nat.le_of_eq HA.out.symm) VM VX hL1 hM1 (fun g o e => Nat.le_trans hs1 (hnA g o e)) (fun g o e => Nat.le_trans hs1 (hnB g o e)) B1
      clear VM VX hL1 hM1 hnA hnB B1 m0 m1 m2 m3 m4 f0 f1 f2 f3 f4 y0 y1 y2 h0 h1 h2
      go_wp2_with fail
      go_meet
      case rel => exact hR
  case rest =>
    clear VM VX m0 m1 m2 m3 m4 x0 x1 x2 HF HO B1
    obtain ⟨pa, n1, c1, pb, n2, c2, VM, VX, hL, hM, B⟩ := hcut
    have hT1 := hT.below B (Nat.le_refl _)
    have h5 := few5_len ls
    have h6 := few6_len ms
    have hSL : ShortL (few5 ls) := fun k hk => by have := few5_at ls k hk; omega
    have hSM : ShortM (few6 ms) := fun k hk => by have := few6_at ms k hk; omega
    have hxz : (cutM (xk, xs, xt)).2.1.size ≤ 12 ∧ (cutM (xk, xs, xt)).2.2.size ≤ 12 := ⟨cutS_short _, cutS_short _⟩
    have hl5 := hL.len
    have hl6 := hM.len
    clear hT
    generalize few5 ls = l at *
    generalize few6 ms = m at *
    generalize cutM (xk, xs, xt) = x at *
    obtain ⟨yk, ys, yt⟩ := x
    dsimp only at VX hxz
    obtain ⟨S, E, hSE, HS⟩ := told_print (msgR (q, l, f, t, m)) (tx (printB (q, l, f, t, m)))
    obtain ⟨T, F, hTF, HU⟩ := told_print (matB (yk, ys, yt)) (tx (askB (yk, ys, yt)))
    have HP := print_any q f t pa n1 c1 pb n2 c2 l m wc hL hM (by omega) (by omega) hT1
    have HK := fun w => ask_word (yk, ys, yt) ⟨Nat.le_trans hxz.1 (by omega), Nat.le_trans hxz.2 (by omega)⟩ w
    have HRC := fun w2 (B2 : Below wc.heap.size wc w2) => msg_right q f t pa n1 c1 pb n2 c2 l m w2 (hL.below B2 (Nat.le_refl _)) (hM.below B2 (Nat.le_refl _)) (by omega) (by omega)
    have HRR := fun w2 (B2 : Below wc.heap.size wc w2) => refMsgR_any q f t pa n1 c1 pb n2 c2 l m w2 (hL.below B2 (Nat.le_refl _)) (hM.below B2 (Nat.le_refl _)) (by omega) (by omega) hSL hSM
    have HAL := fun w2 (B2 : Below wc.heap.size wc w2) => alive_any w2 (hT1.below B2 (Nat.le_refl _))
    have HRP := fun w2 (B2 : Below wc.heap.size wc w2) => ref_print q f t pa n1 c1 pb n2 c2 l m w2 (hL.below B2 (Nat.le_refl _)) (hM.below B2 (Nat.le_refl _))
    have HRM := fun w => refMatcher_any (yk, ys, yt) ⟨Nat.le_trans hxz.1 (by omega), Nat.le_trans hxz.2 (by omega)⟩ w
    have HRA := fun (hx : matB (yk, ys, yt) = true) w => refAsk_any (yk, ys, yt) (mat_parts hx).1 ⟨Nat.le_trans hxz.1 (by omega), Nat.le_trans hxz.2 (by omega)⟩ w
    rw [hSE] at HP
    rw [hTF] at HK
    dsimp only [aggM] at HK HRM HRA
    have Bc : Below wc.heap.size wc wc := Below.refl _ _
    have HB := B
    clear B
    clear hSE hTF hL hM hSL hSM hxz hl5 hl6 h5 h6 hT1
    generalize tx (printB (q, l, f, t, m)) = PT at *
    generalize tx (askB (yk, ys, yt)) = AT at *
    generalize msgR (q, l, f, t, m) = R at *
    generalize matB (yk, ys, yt) = X at *
    have m0 : wc.cell? ⟨A, 0, none⟩ = some (.int .i64 q) := VM.cell 0
    have m1 : wc.cell? ⟨A, 1, none⟩ = some (.slice pa n1 c1) := VM.cell 1
    have m2 : wc.cell? ⟨A, 2, none⟩ = some (.int .i64 f) := VM.cell 2
    have m3 : wc.cell? ⟨A, 3, none⟩ = some (.int .i64 t) := VM.cell 3
    have m4 : wc.cell? ⟨A, 4, none⟩ = some (.slice pb n2 c2) := VM.cell 4
    go_wp2_with fail
    refine HP.mono ?_
    rintro e w2 ⟨rfl, B2⟩
    have VM2 := VM.keep B2 (Nat.le_refl _)
    have VX2 := VX.keep B2 (Nat.le_refl _)
    have Bc2 := Bc.trans (B2.mono Bc.size)
    clear HP VM VX Bc B2 m0 m1 m2 m3 m4
    have x0 : w2.cell? ⟨A + 1, 0, none⟩ = some (.int .i64 yk) := VX2.cell 0
    have x1 : w2.cell? ⟨A + 1, 1, none⟩ = some (.string ys) := VX2.cell 1
    have x2 : w2.cell? ⟨A + 1, 2, none⟩ = some (.string yt) := VX2.cell 2
    go_wp2_with fail
    refine (HK _).mono ?_
    rintro e w3 ⟨rfl, B3⟩
    have VM3 := VM2.keep B3 (Nat.le_refl _)
    have VX3 := VX2.keep B3 (Nat.le_refl _)
    have Bc3 := Bc2.trans (B3.mono Bc2.size)
    clear HK VM2 VX2 Bc2 B3 x0 x1 x2
    have m0 : w3.cell? ⟨A, 0, none⟩ = some (.int .i64 q) := VM3.cell 0
    have m1 : w3.cell? ⟨A, 1, none⟩ = some (.slice pa n1 c1) := VM3.cell 1
    have m2 : w3.cell? ⟨A, 2, none⟩ = some (.int .i64 f) := VM3.cell 2
    have m3 : w3.cell? ⟨A, 3, none⟩ = some (.int .i64 t) := VM3.cell 3
    have m4 : w3.cell? ⟨A, 4, none⟩ = some (.slice pb n2 c2) := VM3.cell 4
    have hRR : (R != R) = false := by cases R <;> rfl
    go_upto_region 4 with fail
    go_cut [23, 24, 25, 26, 27, 28, 29, 30, 31] (fun _ _ _ _ _ _ _ _ s31 wx => s31 = .bool false ∧ Vals wx A 27 (msgC q (.slice pa n1 c1) f t (.slice pb n2 c2)) ∧ Vals wx (A + 1) 32 #[.int .i64 yk, .string ys, .string yt] ∧ Below wc.heap.size wc wx)
    case first =>
      have Bc := Bc3
      have VM := VM3
      have VX := VX3
      clear Bc3 VM3 VX3
      go_region_held3 (fun w' => w'.cell? ⟨A, 0, none⟩ = some (.int .i64 q) ∧ w'.cell? ⟨A, 1, none⟩ = some (.slice pa n1 c1) ∧ w'.cell? ⟨A, 2, none⟩ = some (.int .i64 f) ∧ w'.cell? ⟨A, 3, none⟩ = some (.int .i64 t) ∧ w'.cell? ⟨A, 4, none⟩ = some (.slice pb n2 c2)) (first | exact ⟨m0, m1, m2, m3, m4⟩ | go_keep) (first
        | (go_at_call 17; refine (HRC _ (by first | exact Bc.drew | exact Bc)).mono ?_; rintro e wz ⟨rfl, Bz⟩; have m0 := keepR Bz m0; have m1 := keepR Bz m1; have m2 := keepR Bz m2; have m3 := keepR Bz m3; have m4 := keepR Bz m4; (first | have VM := VM.keep (w := w3.drew) Bz (Nat.le_refl _) | have VM := VM.keep Bz (Nat.le_refl _)); (first | have VX := VX.keep (w := w3.drew) Bz (Nat.le_refl _) | have VX := VX.keep Bz (Nat.le_refl _)); (first | have Bc := Bc.drew.trans (Bz.mono Bc.drew.size) | have Bc := Bc.trans (Bz.mono Bc.size)))
        | (go_at_call 18; refine (HRR _ (by first | exact Bc.drew | exact Bc)).mono ?_; rintro e wz ⟨rfl, Bz⟩; have m0 := keepR Bz m0; have m1 := keepR Bz m1; have m2 := keepR Bz m2; have m3 := keepR Bz m3; have m4 := keepR Bz m4; (first | have VM := VM.keep (w := w3.drew) Bz (Nat.le_refl _) | have VM := VM.keep Bz (Nat.le_refl _)); (first | have VX := VX.keep (w := w3.drew) Bz (Nat.le_refl _) | have VX := VX.keep Bz (Nat.le_refl _)); (first | have Bc := Bc.drew.trans (Bz.mono Bc.drew.size) | have Bc := Bc.trans (Bz.mono Bc.size)))
        | (go_at_call 12; refine (HAL _ (by first | exact Bc.drew | exact Bc)).mono ?_; rintro e wz ⟨rfl, Bz⟩; have m0 := keepR Bz m0; have m1 := keepR Bz m1; have m2 := keepR Bz m2; have m3 := keepR Bz m3; have m4 := keepR Bz m4; (first | have VM := VM.keep (w := w3.drew) Bz (Nat.le_refl _) | have VM := VM.keep Bz (Nat.le_refl _)); (first | have VX := VX.keep (w := w3.drew) Bz (Nat.le_refl _) | have VX := VX.keep Bz (Nat.le_refl _)); (first | have Bc := Bc.drew.trans (Bz.mono Bc.drew.size) | have Bc := Bc.trans (Bz.mono Bc.size))))
      all_goals
        clear m0 m1 m2 m3 m4
        go_wp2_with fail
        go_meet
        case rel => exact ⟨rfl, VM, VX, Bc⟩
    case rest =>
      obtain ⟨rfl, VM4, VX4, Bc4⟩ := hcut
      clear VM3 VX3 Bc3 m0 m1 m2 m3 m4 HRC HAL
      have x0 : wc.cell? ⟨A + 1, 0, none⟩ = some (.int .i64 yk) := VX4.cell 0
      have x1 : wc.cell? ⟨A + 1, 1, none⟩ = some (.string ys) := VX4.cell 1
      have x2 : wc.cell? ⟨A + 1, 2, none⟩ = some (.string yt) := VX4.cell 2
      cases X with
      | false =>
        obtain ⟨rfl, rfl⟩ := HU.out.2 rfl
        clear HRA
        go_wp2_with fail
        refine (HRM _).mono ?_
        rintro e w6 ⟨rfl, B6⟩
        have VM6 := VM4.keep B6 (Nat.le_refl _)
        have Bc6 := Bc4.trans (B6.mono Bc4.size)
        clear VM4 VX4 Bc4 x0 x1 x2 HRM
        have m0 : w6.cell? ⟨A, 0, none⟩ = some (.int .i64 q) := VM6.cell 0
        have m1 : w6.cell? ⟨A, 1, none⟩ = some (.slice pa n1 c1) := VM6.cell 1
        have m2 : w6.cell? ⟨A, 2, none⟩ = some (.int .i64 f) := VM6.cell 2
        have m3 : w6.cell? ⟨A, 3, none⟩ = some (.int .i64 t) := VM6.cell 3
        have m4 : w6.cell? ⟨A, 4, none⟩ = some (.slice pb n2 c2) := VM6.cell 4
        have HR7 := HRR _ Bc6
        cases R with
        | false =>
          obtain ⟨rfl, rfl⟩ := HS.out.2 rfl
          clear HRR HRP
          go_wp2_with fail
          refine HR7.mono ?_
          rintro e w8 ⟨rfl, B8⟩
          have B9 := HB.trans ((Bc6.trans (B8.mono Bc6.size)).mono HB.size)
          go_wp2_with fail
          go_ret
          exact ⟨rfl, B9⟩
        | true =>
          obtain ⟨rfl, rfl⟩ := HS.out.1 rfl
          go_wp2_with fail
          refine HR7.mono ?_
          rintro e w8 ⟨rfl, B8⟩
          have V8 := VM6.keep B8 (Nat.le_refl _)
          have B8' := Bc6.trans (B8.mono Bc6.size)
          have cc0 : w8.cell? ⟨A, 0, none⟩ = some (.int .i64 q) := V8.cell 0
          have cc1 : w8.cell? ⟨A, 1, none⟩ = some (.slice pa n1 c1) := V8.cell 1
          have cc2 : w8.cell? ⟨A, 2, none⟩ = some (.int .i64 f) := V8.cell 2
          have cc3 : w8.cell? ⟨A, 3, none⟩ = some (.int .i64 t) := V8.cell 3
          have cc4 : w8.cell? ⟨A, 4, none⟩ = some (.slice pb n2 c2) := V8.cell 4
          have HP8 := HRP _ B8' (by first | trivial | rfl)
          clear HRR HRP m0 m1 m2 m3 m4
          go_wp2_with fail
          refine HP8.mono ?_
          rintro e w9 ⟨rfl, B9⟩
          have B10 := HB.trans ((B8'.trans (B9.mono B8'.size)).mono HB.size)
          go_wp2_with fail
          go_ret
          exact ⟨rfl, B10⟩
      | true =>
        obtain ⟨rfl, rfl⟩ := HU.out.1 rfl
        have HR1 := HRA rfl
        clear HRA
        go_wp2_with fail
        refine (HRM _).mono ?_
        rintro e w5 ⟨rfl, B5⟩
        have VM5 := VM4.keep B5 (Nat.le_refl _)
        have VX5 := VX4.keep B5 (Nat.le_refl _)
        have Bc5 := Bc4.trans (B5.mono Bc4.size)
        clear VM4 VX4 Bc4 x0 x1 x2 HRM
        have x0 : w5.cell? ⟨A + 1, 0, none⟩ = some (.int .i64 yk) := VX5.cell 0
        have x1 : w5.cell? ⟨A + 1, 1, none⟩ = some (.string ys) := VX5.cell 1
        have x2 : w5.cell? ⟨A + 1, 2, none⟩ = some (.string yt) := VX5.cell 2
        go_wp2_with fail
        refine (HR1 _).mono ?_
        rintro e w6 ⟨rfl, B6⟩
        have VM6 := VM5.keep B6 (Nat.le_refl _)
        have Bc6 := Bc5.trans (B6.mono Bc5.size)
        clear VM5 VX5 Bc5 x0 x1 x2 HR1
        have m0 : w6.cell? ⟨A, 0, none⟩ = some (.int .i64 q) := VM6.cell 0
        have m1 : w6.cell? ⟨A, 1, none⟩ = some (.slice pa n1 c1) := VM6.cell 1
        have m2 : w6.cell? ⟨A, 2, none⟩ = some (.int .i64 f) := VM6.cell 2
        have m3 : w6.cell? ⟨A, 3, none⟩ = some (.int .i64 t) := VM6.cell 3
        have m4 : w6.cell? ⟨A, 4, none⟩ = some (.slice pb n2 c2) := VM6.cell 4
        have HR7 := HRR _ Bc6
        cases R with
        | false =>
          obtain ⟨rfl, rfl⟩ := HS.out.2 rfl
          clear HRR HRP
          go_wp2_with fail
          refine HR7.mono ?_
          rintro e w8 ⟨rfl, B8⟩
          have B9 := HB.trans ((Bc6.trans (B8.mono Bc6.size)).mono HB.size)
          go_wp2_with fail
          go_ret
          exact ⟨rfl, B9⟩
        | true =>
          obtain ⟨rfl, rfl⟩ := HS.out.1 rfl
          go_wp2_with fail
          refine HR7.mono ?_
          rintro e w8 ⟨rfl, B8⟩
          have V8 := VM6.keep B8 (Nat.le_refl _)
          have B8' := Bc6.trans (B8.mono Bc6.size)
          have cc0 : w8.cell? ⟨A, 0, none⟩ = some (.int .i64 q) := V8.cell 0
          have cc1 : w8.cell? ⟨A, 1, none⟩ = some (.slice pa n1 c1) := V8.cell 1
          have cc2 : w8.cell? ⟨A, 2, none⟩ = some (.int .i64 f) := V8.cell 2
          have cc3 : w8.cell? ⟨A, 3, none⟩ = some (.int .i64 t) := V8.cell 3
          have cc4 : w8.cell? ⟨A, 4, none⟩ = some (.slice pb n2 c2) := V8.cell 4
          have HP8 := HRP _ B8' (by first | trivial | rfl)
          clear HRR HRP m0 m1 m2 m3 m4
          go_wp2_with fail
          refine HP8.mono ?_
          rintro e w9 ⟨rfl, B9⟩
          have B10 := HB.trans ((B8'.trans (B9.mono B8'.size)).mono HB.size)
          go_wp2_with fail
          go_ret
          exact ⟨rfl, B10⟩
end Go.Proofs.YthncfcjkpcjkiaaGreatDoor.wirePrints
