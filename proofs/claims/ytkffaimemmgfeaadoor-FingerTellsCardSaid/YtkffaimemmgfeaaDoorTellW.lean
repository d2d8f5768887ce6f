/-
  The law's walk: any text behind any hash, its digits, and any labels' finger, are as the document says, or refused.
-/
import Derived.Test.YtkffaimemmgfeaaDoorFinF
import Derived.Lib.MinMax
namespace Go.Proofs.YtkffaimemmgfeaaDoor.fingerTells
open Go.RowKit Go.Shelf Fnv
set_option linter.unusedVariables false

theorem keepT {B : Nat} {w w' : World} {v : Value} (hB : Below B w w') {p : Addr} (hp : p.block < B) (hT : w.cell? p = some v) : w'.cell? p = some v := (hB.cell hp).trans hT
theorem shortT {l : List L2} (hS : ∀ k, k < l.length → (l.getD k zL).1.size ≤ maxLen ∧ (l.getD k zL).2.size ≤ maxLen) (m : Nat) : ShortL (l.take m) := by
  intro k hk
  rw [List.length_take] at hk
  have e : (l.take m).getD k zL = l.getD k zL := by
    rw [List.getD_eq_getElem?_getD, List.getD_eq_getElem?_getD, List.getElem?_take_of_lt (by omega)]
  rw [e]
  have := hS k (by omega)
  unfold maxLen at this
  omega
set_option maxRecDepth 100000 in
set_option maxHeartbeats 1600000 in
theorem walk (h : Nat) (text : ByteArray) (oa : Option Addr) (n cap : Nat) (l : List L2) (w : World) (hh : h < M64) (ht : text.size ≤ maxLen) (hL0 : Ls w oa n cap l) (hc : cap ≤ maxLen)
    (hS : ∀ k, k < l.length → (l.getD k zL).1.size ≤ maxLen ∧ (l.getD k zL).2.size ≤ maxLen) (hT : w.cell? ⟨3, 15, none⟩ = some (.int .u8 4)) :
    Calls Tryd.prog 3 #[.int .u64 (h : Int), .string text, .slice oa n cap] w fun e w' => e = .returned (.bool true) ∧ Below w.heap.size w w' := by
  have hTb := World.block_lt_of_cell? _ _ hT
  have FA := fun w => fewF_any text w ht
  have zA := cutF_size text
  generalize cutF text = A at *
  obtain ⟨m, hm⟩ : ∃ m, min n 5 = m := ⟨_, rfl⟩
  have hm5 : m ≤ 5 := by omega
  have hmn : m ≤ n := by omega
  have hL := hL0.take hmn
  have hSh := shortT hS m
  have hr := hL0.room
  generalize l.take m = L at *
  unfold maxLen at hc
  have hmi : min (n : Int) 5 = (m : Int) := by omega
  have hn0 : n ≤ 9223372036854775807 := by omega
  clear hL0 hS hm ht
  obtain ⟨x, hx⟩ : ∃ x, fnR h (bl A) = x := ⟨_, rfl⟩
  have M1 := fun w => more_any h A w (by omega) hh
  have M2 := fun w => refMore_any h A w (by omega) hh
  rw [hx] at M1 M2
  have X1 := fun w hT => hex_any h w hh hT
  have X2 := fun w => refHex_any h w hh
  generalize tx (hexL h) = s at *
  have HSh := Lib.hid hSh
  have hl := hL.len
  clear hx hSh
  have xx : (((x : Nat) : Int) != ((x : Nat) : Int)) = false := by simp
  go_enter Tryd.func3, Tryd.ntmps3
  go_wp2_with fail
  refine (FA _).mono ?_
  rintro e w1 ⟨rfl, rfl⟩
  clear FA
  go_wp2_with fail
  refine (of_any oa m cap L _ hL hm5 hT).mono ?_
  rintro e w1 ⟨he, B1⟩
  have hL1 := hL.below B1 (Nat.le_refl _)
  clear hL
  cases hR : rightB L with
  | true =>
    rw [hR, if_pos rfl] at he
    subst he
    have HRef := fun w' (hB : Below w1.heap.size w1 w') => refOf_any oa m cap L w' (hL1.below hB (Nat.le_refl _)) hR
    have HRR := fun w' (hB : Below w1.heap.size w1 w') => refRight_any oa m cap L w' (hL1.below hB (Nat.le_refl _)) (by omega) HSh.out
    have hz : (tx (hexL (labsF firstN L))).size = 16 := by rw [tx_size]; unfold hexL; rw [hexK_length]
    rw [hR] at HRR
    generalize tx (hexL (labsF firstN L)) = t at *
    clear hR
    go_wp2_with fail
    refine (M1 _).mono ?_
    rintro e w2 ⟨rfl, B2⟩
    have B02 := B1.trans (B2.mono B1.size)
    go_wp2_with fail
    refine (M2 _).mono ?_
    rintro e w3 ⟨rfl, B3⟩
    have B03 := B02.trans (B3.mono B02.size)
    have C3 := B2.trans (B3.mono B2.size)
    go_wp2_with fail
    refine (X1 _ (keepT B03 hTb hT)).mono ?_
    rintro e w4 ⟨rfl, B4⟩
    have B04 := B03.trans (B4.mono B03.size)
    have C4 := C3.trans (B4.mono C3.size)
    go_wp2_with fail
    refine (X2 _).mono ?_
    rintro e w5 ⟨rfl, B5⟩
    have B05 := B04.trans (B5.mono B04.size)
    have C5 := C4.trans (B5.mono C4.size)
    go_wp2_with fail
    refine (aliveF_any _ (keepT B05 hTb hT)).mono ?_
    rintro e w6 ⟨rfl, B6⟩
    have B06 := B05.trans (B6.mono B05.size)
    have C6 := C5.trans (B6.mono C5.size)
    clear B1 B2 B3 B4 B5 B6 B02 B03 B04 B05 C3 C4 C5
    go_wp2_with fail
    refine (HRR _ C6).mono ?_
    rintro e w7 ⟨rfl, B7⟩
    have B07 := B06.trans (B7.mono B06.size)
    have C7 := C6.trans (B7.mono C6.size)
    clear B06 C6 B7 HRR
    go_wp2_with fail
    refine (HRef _ C7).mono ?_
    rintro e w8 ⟨rfl, B8⟩
    go_wp2_with fail
    go_ret
    exact ⟨rfl, B07.trans (B8.mono B07.size)⟩
  | false =>
    rw [hR, if_neg (by simp)] at he
    subst he
    have HRR := fun w' (hB : Below w1.heap.size w1 w') => refRight_any oa m cap L w' (hL1.below hB (Nat.le_refl _)) (by omega) HSh.out
    rw [hR] at HRR
    clear hR
    go_wp2_with fail
    refine (M1 _).mono ?_
    rintro e w2 ⟨rfl, B2⟩
    have B02 := B1.trans (B2.mono B1.size)
    go_wp2_with fail
    refine (M2 _).mono ?_
    rintro e w3 ⟨rfl, B3⟩
    have B03 := B02.trans (B3.mono B02.size)
    have C3 := B2.trans (B3.mono B2.size)
    go_wp2_with fail
    refine (X1 _ (keepT B03 hTb hT)).mono ?_
    rintro e w4 ⟨rfl, B4⟩
    have B04 := B03.trans (B4.mono B03.size)
    have C4 := C3.trans (B4.mono C3.size)
    go_wp2_with fail
    refine (X2 _).mono ?_
    rintro e w5 ⟨rfl, B5⟩
    have B05 := B04.trans (B5.mono B04.size)
    have C5 := C4.trans (B5.mono C4.size)
    go_wp2_with fail
    refine (aliveF_any _ (keepT B05 hTb hT)).mono ?_
    rintro e w6 ⟨rfl, B6⟩
    have B06 := B05.trans (B6.mono B05.size)
    have C6 := C5.trans (B6.mono C5.size)
    clear B1 B2 B3 B4 B5 B6 B02 B03 B04 B05 C3 C4 C5
    go_wp2_with fail
    refine (HRR _ C6).mono ?_
    rintro e w7 ⟨rfl, B7⟩
    go_wp2_with fail
    go_ret
    exact ⟨rfl, B06.trans (B7.mono B06.size)⟩
end Go.Proofs.YtkffaimemmgfeaaDoor.fingerTells
