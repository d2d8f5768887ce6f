/-
  HushFrees' walk.
-/
import Derived.Test.YtkckdombcnifnaaLawJ
import Derived.IntWalk
namespace Go.Proofs.Ytkckdombcnifnaa
open Go.RowKit Go.Shelf
set_option linter.unusedVariables false

theorem mayT_time {l : List T3} {L : List L2} {now t : Int} (h : mayT l L now = true) (ht : timeB t = true) : mayT l L t = true := by
  obtain ⟨h1, h2, _⟩ := mayT_parts h
  unfold mayT
  rw [h1, h2, ht]
  rfl
theorem act_is {l : List T3} {L : List L2} {now : Int} {e : Ending} {b : Bool} (hm : mayT l L now = true) (ha : actT l L now = b) (h : ActOut l L now e) : e = .returned (.tuple #[.bool b, .int .i64 0]) := by
  unfold ActOut actF at h
  rw [if_pos hm, ha] at h
  exact h
theorem act_no {l : List T3} {L : List L2} {now : Int} {e : Ending} (hm : mayT l L now = false) (h : ActOut l L now e) : e = .returned (.tuple #[.bool false, .int .i64 1]) := by
  unfold ActOut actF at h
  rw [hm] at h
  exact h
theorem free_of {l : List T3} {L : List L2} {now t : Int} {e : Ending} (hm : mayT l L now = true) (ht : FreeT l L now t) (h : FreeOut l L now e) : e = .returned (.tuple #[.int .i64 t, .int .i64 0]) := by
  rcases h with ⟨h, _⟩ | ⟨_, u, hu, h⟩
  · rw [hm] at h; cases h
  · rw [h, hu.unique ht]
theorem frees_facts {l : List T3} {L : List L2} {now t : Int} (hm : mayT l L now = true) (ht : FreeT l L now t) : mayT l L t = true ∧ actT l L t = false ∧ now ≤ t ∧ 0 ≤ now ∧ t ≤ 1099511627776 ∧ ∀ a, now ≤ a → a < t → mayT l L a = true ∧ actT l L a = true ∧ FreeT l L a t := by
  obtain ⟨h1, h2, h3⟩ := mayT_parts hm
  have htt := ht.time h1 h3
  have b1 := (time_iff now).1 h3
  have b2 := (time_iff t).1 htt
  exact ⟨mayT_time hm htt, ht.2.2, ht.1, b1.1, b2.2, fun a ha hat => ⟨mayT_time hm ((time_iff a).2 ⟨by omega, by omega⟩), ht.2.1 a ha hat, ht.later ha (by omega)⟩⟩
theorem spread_in {now m x : Int} (hn : 0 ≤ now) (hm : 0 < m) (h : now + m ≤ 4611686018427387904) : now ≤ wrap64 (now + wrap64 ((IntKind.u64.wrap x).tmod m)) ∧ wrap64 (now + wrap64 ((IntKind.u64.wrap x).tmod m)) < now + m := by
  have h0 : 0 ≤ IntKind.u64.wrap x := by simp [IntKind.wrap, IntKind.bits, IntKind.signed]; omega
  rw [Int.tmod_eq_emod_of_nonneg h0]
  have h1 := Int.emod_nonneg (IntKind.u64.wrap x) (show m ≠ 0 by omega)
  have h2 := Int.emod_lt_of_pos (IntKind.u64.wrap x) hm
  generalize IntKind.u64.wrap x % m = q at *
  unfold wrap64
  omega
set_option maxRecDepth 100000 in
set_option maxHeartbeats 12800000 in
theorem frees_walk (oa : Option Addr) (n cap : Nat) (l : List H5) (ob : Option Addr) (nb cb : Nat) (L : List L2) (now at_ : Int) (w : World) (h : Hs w oa n cap l) (hk : LkB w l) (hn : cap ≤ maxLen) (hL : Ls w ob nb cb L) (hnb : cb ≤ maxLen) :
    Calls Try.prog 4 #[.slice oa n cap, .slice ob nb cb, .int .i64 now, .int .i64 at_] w fun e w' => e = .returned (.bool true) ∧ Below w.heap.size w w' := by
  have hr := h.room
  have hrb := hL.room
  unfold maxLen at hn hnb
  have HFew := few_any oa n cap l w h hk (by omega)
  have HSome := fun w1 (B1 : Below w.heap.size w w1) => some_any ob nb cb L w1 (hL.below B1 (Nat.le_refl _))
  have hL5 := hL.some
  have hm5 : min nb 5 ≤ 5 := Nat.min_le_right _ _
  generalize hu : min nb 5 = u at *
  clear hu h hk hL
  generalize L.take u = L5 at *
  go_enter Try.func4, Try.ntmps4
  go_wp2_with fail
  refine HFew.mono ?_
  rintro e w1 ⟨⟨v, rs, rfl, hO, hE⟩, B1⟩
  obtain ⟨oz, cz, rfl, hH, hLk, hcz⟩ := hO.lies
  have hlen : rs.length ≤ 10 := by
    have h1 := congrArg List.length hE
    have h2 := fewT_len (l.map h3)
    rw [List.length_map] at h1
    omega
  clear HFew hO hE hcz
  go_wp2_with fail
  refine (HSome _ B1).mono ?_
  rintro e w2 ⟨rfl, rfl⟩
  have hL1 := hL5.below B1 (Nat.le_refl _)
  have HFree := free_any oz rs.length cz rs ob u cb L5 now w1 hH hLk (by omega) hL1 (by omega)
  have HAct := fun s w2 (B2 : Below w1.heap.size w1 w2) => active_any oz rs.length cz rs ob u cb L5 s w2 (hH.below B2 (Nat.le_refl _)) (hLk.below B2 (Nat.le_refl _)) (by omega) (hL1.below B2 (Nat.le_refl _)) (by omega)
  have HFree2 := fun s w2 (B2 : Below w1.heap.size w1 w2) => free_any oz rs.length cz rs ob u cb L5 s w2 (hH.below B2 (Nat.le_refl _)) (hLk.below B2 (Nat.le_refl _)) (by omega) (hL1.below B2 (Nat.le_refl _)) (by omega)
  clear HSome hH hLk hL1 hL5
  go_wp2_with fail
  refine HFree.mono ?_
  rintro e w3 ⟨hf, B3⟩
  generalize rs.map h3 = ts at *
  generalize rs.length = r at *
  have HAl := fun w => alive_any w
  have B4 := B1.trans (B3.mono B1.size)
  rcases hf with ⟨_, rfl⟩ | ⟨hm, t, ht, rfl⟩
  · clear HAct HFree2 HFree
    go_wp2_with fail
    refine (HAl _).mono ?_
    rintro e w4 ⟨rfl, B5⟩
    go_wp2_with fail
    go_ret
    exact ⟨rfl, B4.trans (B5.mono B4.size)⟩
  · obtain ⟨m1, m2, m3, m4, m5, m6⟩ := frees_facts hm ht
    have HM6 := Lib.hid m6
    have HA1 := HAct t w3 B3
    have HA1' : Calls Try.prog 11 #[.slice oz r cz, .slice ob u cb, .int .i64 t] w3 fun e w' => e = .returned (.tuple #[.bool false, .int .i64 0]) ∧ Below w3.heap.size w3 w' := HA1.mono fun e w' q => ⟨act_is m1 m2 q.1, q.2⟩
    clear m1 m2 m6 HA1 HFree hm ht
    go_wp2_with fail
    refine HA1'.mono ?_
    rintro e w4 ⟨rfl, B5⟩
    have B6 := B3.trans (B5.mono B3.size)
    have B7 := B4.trans (B5.mono B4.size)
    have hno : ¬ t < now := by omega
    clear HA1' B3 B5 B4
    go_wp2_with fail
    refine (HAl _).mono ?_
    rintro e w5 ⟨rfl, B8⟩
    have B9 := B6.trans (B8.mono B6.size)
    have B10 := B7.trans (B8.mono B7.size)
    clear B6 B7 B8
    by_cases hnt : t = now
    · subst hnt
      clear HAct HFree2
      go_wp2_with fail
      go_ret
      exact ⟨rfl, B10⟩
    · have hne : (t == now) = false := by simp [hnt]
      have hlt : now < t := by omega
      obtain ⟨a1, a2⟩ := spread_in (x := at_) (m := t - now) m4 (by omega) (by omega)
      have HA := Lib.hid (And.intro a1 a2)
      clear a1 a2
      go_wp2_with fail
      obtain ⟨a1, a2⟩ := HA.out
      clear HA
      generalize wrap64 (now + wrap64 ((IntKind.u64.wrap at_).tmod (t - now))) = a at *
      obtain ⟨f1, f2, f3⟩ := HM6.out a a1 (by omega)
      have HA2 := HAct a w5 B9
      have HA3 : Calls Try.prog 11 #[.slice oz r cz, .slice ob u cb, .int .i64 a] w5 fun e w' => e = .returned (.tuple #[.bool true, .int .i64 0]) ∧ Below w5.heap.size w5 w' := HA2.mono fun e w' q => ⟨act_is f1 f2 q.1, q.2⟩
      have HFr : ∀ w2, Below w1.heap.size w1 w2 → Calls Try.prog 12 #[.slice oz r cz, .slice ob u cb, .int .i64 a] w2 fun e w' => e = .returned (.tuple #[.int .i64 t, .int .i64 0]) ∧ Below w2.heap.size w2 w' := fun w2 B => (HFree2 a w2 B).mono fun e w' q => ⟨free_of f1 f3 q.1, q.2⟩
      clear HA2 HAct HFree2 HM6 f1 f2 f3 a1 a2
      refine HA3.mono ?_
      rintro e w6 ⟨rfl, B11⟩
      have B12 := B9.trans (B11.mono B9.size)
      have B13 := B10.trans (B11.mono B10.size)
      clear HA3
      go_wp2_with fail
      refine (HFr _ B12).mono ?_
      rintro e w7 ⟨rfl, B14⟩
      go_wp2_with fail
      go_ret
      exact ⟨by simp, B13.trans (B14.mono B13.size)⟩
end Go.Proofs.Ytkckdombcnifnaa
