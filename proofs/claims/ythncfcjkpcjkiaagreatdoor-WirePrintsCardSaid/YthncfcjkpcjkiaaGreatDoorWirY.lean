/-
  The program's own: words of a hush, and a message's text.
-/
import Derived.Test.YthncfcjkpcjkiaaGreatDoorWirK
import Derived.Test.YthncfcjkpcjkiaaGreatDoorWirV
namespace Go.Proofs.YthncfcjkpcjkiaaGreatDoor
open Go.RowKit Go.Shelf
set_option linter.unusedVariables false

theorem Tabs.drew {w : World} (h : Tabs w) : Tabs w.drew := h.below ((Below.refl w.heap.size w).drew) (Nat.le_refl _)
/-- short texts, of kinds that there are -/
def Short12M (ms : List M3) : Prop := ∀ k, k < ms.length → (0 ≤ (ms.getD k zM).1 ∧ (ms.getD k zM).1 ≤ 3) ∧ (ms.getD k zM).2.1.size ≤ 12 ∧ (ms.getD k zM).2.2.size ≤ 12
theorem wh_next (a b : ByteArray) (ms : List M3) (k : Nat) (hk : k < ms.length) : a :: b :: ((ms.take (k + 1)).map askB).map tx = (a :: b :: ((ms.take k).map askB).map tx) ++ [tx (askB (ms.getD k zM))] := by
  rw [takeM_next ms k hk, List.map_append, List.map_append]
  rfl
set_option maxRecDepth 100000 in
set_option maxHeartbeats 6400000 in
theorem words_hush_any (f t : Int) (hf : timeB f = true) (ht : timeB t = true) (ob : Option Addr) (nb cb : Nat) (ms : List M3) (w : World) (h : Ms w ob nb cb ms) (hn : nb ≤ 6) (hz : Short12M ms) (hT : Tabs w) :
    Calls Tryz.prog 35 #[.agg #[.int .i64 f, .int .i64 t, .slice ob nb cb]] w fun e w' => WordsOut w w' e ((digsB f.toNat :: digsB t.toNat :: ms.map askB).map tx) ∧ Below w.heap.size w w' := by
  have hl := h.len
  have hr := h.room
  have HZ := Lib.hid hz
  clear hz
  obtain ⟨i0, hi, hz0, hz1, hz2⟩ := info_parts infoTx
  have V0 := Vals.new w 25 #[.int .i64 f, .int .i64 t, .slice ob nb cb]
  have B0 := below_alloc w (.cells #[.int .i64 f, .int .i64 t, .slice ob nb cb] 25)
  have hT := hT.below B0 (Nat.le_refl _)
  have HW : Hid ((digsB f.toNat :: digsB t.toNat :: ms.map askB).map tx = tx (digsB f.toNat) :: tx (digsB t.toNat) :: (ms.map askB).map tx) := rfl
  have HI := fun (n : Int) (y : ByteArray) (hn : timeB n = true) (hy : Hid (y = tx (digsB n.toNat))) (w : World) (hT : Tabs w) => (itoa_any n hn w hT).mono fun e w' ⟨h1, h2⟩ => (⟨by rw [h1, hy.out], h2⟩ : e = Ending.returned (.string y) ∧ Below w.heap.size w w')
  go_enter Tryz.func35, Tryz.ntmps35
  go_upto_region 1 with fail
  generalize w.alloc (.cells #[.int .i64 f, .int .i64 t, .slice ob nb cb] 25) = w1 at *
  have c0 : w1.cell? ⟨w.heap.size, 0, none⟩ = some (.int .i64 f) := V0.cell 0
  have c1 : w1.cell? ⟨w.heap.size, 1, none⟩ = some (.int .i64 t) := V0.cell 1
  have c2 : w1.cell? ⟨w.heap.size, 2, none⟩ = some (.slice ob nb cb) := V0.cell 2
  obtain ⟨A, hA⟩ : ∃ A, A = w.heap.size := ⟨_, rfl⟩
  rw [← hA] at c0 c1 c2
  rw [← hA]
  obtain ⟨a, ha⟩ : ∃ a, Hid (a = tx (digsB f.toNat)) := ⟨_, rfl⟩
  obtain ⟨b, hb⟩ : ∃ b, Hid (b = tx (digsB t.toNat)) := ⟨_, rfl⟩
  rw [← ha.out, ← hb.out] at HW
  clear hA V0
  go_region_held3 (fun w' => w'.cell? ⟨A, 0, none⟩ = some (.int .i64 f) ∧ w'.cell? ⟨A, 1, none⟩ = some (.int .i64 t)) (first | exact ⟨c0, c1⟩ | go_keep) (first | (go_at_call 56; refine Calls.mono (HI _ _ (by first | exact hf | exact ht) (by first | exact ha | exact hb) _ (by first | exact hT | exact hT.drew)) ?_; rintro e wz ⟨rfl, Bz⟩; have c0 := keepR Bz c0; have c1 := keepR Bz c1; have c2 := keepR Bz c2; (first | have hT := hT.drew.below Bz (Nat.le_refl _) | have hT := hT.below Bz (Nat.le_refl _)); (first | have B0 := B0.drew.trans (Bz.mono B0.drew.size) | have B0 := B0.trans (Bz.mono B0.size))))
  have own0 : (wz.alloc (.cells #[.string a, .string b] 9)).ownsRow w.heap.size 9 1 (.slice (some ⟨wz.heap.size, 0, none⟩) 2 2) 2 (cellsT (a :: b :: ((ms.take 0).map askB).map tx)) :=
    ⟨by simp [cellsT], .inr ⟨wz.heap.size, 2, #[.string a, .string b], rfl, B0.size, heap_alloc_new wz _, Nat.le_refl _, by unfold maxLen; omega, by simp, by simp [cellsT]⟩⟩
  have c2' := keepR (below_alloc wz (.cells #[.string a, .string b] 9)) c2
  have B1 := B0.alloc B0.size (.cells #[.string a, .string b] 9)
  generalize wz.heap.size = G at *
  generalize wz.alloc (.cells #[.string a, .string b] 9) = w2 at *
  clear HI hT B0 Bz c0 c1 c2
  go_wp2_with fail
  go_loopw [3, 16] (fun s3 s16 wr => ∃ k : Nat, k ≤ nb ∧ s16 = .int .i64 k ∧ wr.ownsRow w.heap.size 9 1 s3 (k + 2) (cellsT (a :: b :: ((ms.take k).map askB).map tx)) ∧ Below w.heap.size w wr) (fun _ s16 _ => nb - (intOf s16).toNat)
  case atStart => exact ⟨0, Nat.zero_le _, rfl, own0, B1⟩
  case round =>
    obtain ⟨k, hk, rfl, hown, hB⟩ := hrel
    clear own0 B1 c2'
    by_cases hlt : k < nb
    · obtain ⟨g, o, rfl, d0, d1, d2⟩ := (h.below hB (Nat.le_refl _)).cell k hlt
      have HX := Lib.hid (wh_next a b ms k (by omega))
      obtain ⟨z0, z1, z2⟩ := HZ.out k (by omega)
      generalize ms.getD k zM = x at *
      have HK := fun w => word_matcher x z0 ⟨by omega, by omega⟩ w
      generalize tx (askB x) = y at *
      obtain ⟨q, u, v⟩ := x
      dsimp only [aggM] at d0 d1 d2 HK
      have hBa := hB.alloc hB.size (.cells #[.int .i64 q, .string u, .string v] 32)
      have howna := hown.alloc (.cells #[.int .i64 q, .string u, .string v] 32)
      clear h hl HZ hown
      go_wp2_with fail
      refine (HK _).mono ?_
      rintro e w5 ⟨rfl, B5⟩
      have hB5 := hBa.trans (B5.mono hBa.size)
      have hown5 := own_keep howna B5
      have hz5 := hB5.size
      clear hBa howna B5 HK
      go_wp2_with (at_builtin; refine wpList_append_own _ rfl _ _ 54 rfl w.heap.size 9 i0 _ 1 16 Tryz.underlying54 hi hz0 hz1 hz2 rfl (by decide) _ _ _ rfl (hown5.alloc _) ⟨w5.heap.size, 0, none⟩ 1 1 [.string y] rfl rfl (one_newT _ _ _) (one_cellT _) (by unfold maxLen; omega) (by omega) (by simp; omega) ?_; intro v' w8 hown' hgrow _)
      have B8 : Below w.heap.size w w8 := (hB5.alloc hz5 _).grown hgrow (by simp; omega) (fun r e => (hown5.lt r e).1)
      have HO : w8.ownsRow w.heap.size 9 1 v' (k + 1 + 2) (cellsT (a :: b :: ((ms.take (k + 1)).map askB).map tx)) := by
        rw [HX.out, cellsT_snoc]
        have e : k + 1 + 2 = k + 2 + 1 := by omega
        rw [e]
        exact hown'
      clear hown' hgrow hown5 hB5
      go_wp2_with fail
      go_roundw
      case rel => exact ⟨k + 1, by omega, by go_num, HO, B8⟩
      case measure => simp [intOf]; omega
    · obtain rfl : k = nb := by omega
      rw [List.take_of_length_le (by omega), ← HW.out] at hown
      obtain ⟨oa', cap', rfl, hT', _, _⟩ := Ts.of_own (by rw [List.length_map]; simp; omega) hown
      have HT := Lib.hid hT'
      clear h hl HZ hown hT'
      go_wp2_with fail
      go_ret
      exact ⟨⟨_, _, _, rfl, HT.out⟩, hB⟩
end Go.Proofs.YthncfcjkpcjkiaaGreatDoor
