/-
  The document's own answers: rows that are the same, whether labels are hushed, when they are free.
-/
import Derived.Test.YtkckdombcnifnaaRefH
namespace Go.Proofs.Ytkckdombcnifnaa
open Go.RowKit Go.Shelf
set_option linter.unusedVariables false

set_option maxRecDepth 100000 in
set_option maxHeartbeats 3200000 in
theorem refSameH_any (oa : Option Addr) (n cap : Nat) (ob : Option Addr) (n' cap' : Nat) (l m : List H5) (w : World) (h : Hs w oa n cap l) (hk : Lk w l) (h' : Hs w ob n' cap' m) (hk' : Lk w m) (he : l.map h3 = m.map h3) (hn : n ≤ 1000000) :
    Calls Try.prog 19 #[.slice oa n cap, .slice ob n' cap'] w fun e w' => e = .returned (.bool true) ∧ Below w.heap.size w w' := by
  have hl := h.len
  have hl' := h'.len
  have hr := h.room
  have hr' := h'.room
  have hlm : l.length = m.length := by have := congrArg List.length he; simpa using this
  obtain rfl : n = n' := by omega
  have HE : Hid (∀ k, k < n → h3 (l.getD k zH) = h3 (m.getD k zH)) := fun k hk => by rw [← map_at l k (by omega), ← map_at m k (by omega), he]
  clear he
  go_enter Try.func19, Try.ntmps19
  go_wp2_with fail
  go_loopw [5, 13] (fun _ s13 wr => ∃ k : Nat, k ≤ n ∧ s13 = .int .i64 k ∧ Below w.heap.size w wr) (fun _ s13 _ => n - (intOf s13).toNat)
  case atStart => exact ⟨0, Nat.zero_le _, rfl, Below.refl _ _⟩
  case round =>
    obtain ⟨k, hkn, rfl, hB⟩ := hrel
    by_cases hlt : k < n
    · obtain ⟨g, o, rfl, c0, c1, c2⟩ := (h.below hB (Nat.le_refl _)).cell k hlt
      obtain ⟨g', o', rfl, d0, d1, d2⟩ := (h'.below hB (Nat.le_refl _)).cell k hlt
      obtain ⟨hM, hMn⟩ := hk.at k (by omega)
      obtain ⟨hM', hMn'⟩ := hk'.at k (by omega)
      have he := HE.out k hlt
      generalize l.getD k zH = x at *
      generalize m.getD k zH = y at *
      obtain ⟨f, t, pa, q, c, ms⟩ := x
      obtain ⟨f', t', pa', q', c', ms'⟩ := y
      unfold h3 at he
      dsimp only at *
      simp only [Prod.mk.injEq] at he
      obtain ⟨rfl, rfl, rfl⟩ := he
      have HU := fun W (hW : Below w.heap.size w W) => refHushes_any f t pa q c pa' q' c' ms W (hM.below hW (Nat.le_refl _)) (hM'.below hW (Nat.le_refl _)) hMn
      have hkn' : (k : Int) < (n : Int) := by omega
      clear h h' hl hl' hk hk' hM hM' HE hlm
      go_upto_region 6 with fail
      go_still_tail 8, (by kernel_rfl)
      change wpList _ _ _ _ _ (World.drew _)
      go_wp2_with fail
      refine (HU _ hB.drew).mono ?_
      rintro e w5 ⟨rfl, B5⟩
      have B6 := hB.drew.trans (B5.mono hB.drew.size)
      go_wp2_with fail
      go_roundw
      case rel => exact ⟨k + 1, by omega, by go_num, B6⟩
      case measure => simp [intOf]; omega
    · obtain rfl : k = n := by omega
      clear h h' hl hk hk' HE
      go_wp2_with fail
      go_ret
      exact ⟨rfl, hB⟩
theorem onH_next (L : List L2) (now : Int) (l : List H5) (k : Nat) (hk : k < l.length) : actT ((l.take (k + 1)).map h3) L now = (actT ((l.take k).map h3) L now || onT L now (h3 (l.getD k zH))) := by
  rw [takeH_next l k hk, List.map_append, act_append]
  congr 1
  simp [actT]
theorem onH_hit (L : List L2) (now : Int) (l : List H5) (k : Nat) (hk : k < l.length) (h : onT L now (h3 (l.getD k zH)) = true) : actT (l.map h3) L now = true := by
  unfold actT
  rw [List.any_eq_true]
  exact ⟨_, List.mem_map.2 ⟨_, getD_mem l k hk, rfl⟩, h⟩
set_option maxRecDepth 100000 in
set_option maxHeartbeats 3200000 in
theorem refActive_any (oa : Option Addr) (n cap : Nat) (l : List H5) (ob : Option Addr) (nb cb : Nat) (L : List L2) (now : Int) (w : World) (h : Hs w oa n cap l) (hk : Lk w l) (hn : n ≤ 1000000) (hL : Ls w ob nb cb L) (hnb : nb ≤ 4611686018427387904) (hr : rightB L = true) (hh : hshT (l.map h3) = true) :
    Calls Try.prog 21 #[.slice oa n cap, .slice ob nb cb, .int .i64 now] w fun e w' => e = .returned (.bool (actT (l.map h3) L now)) ∧ Below w.heap.size w w' := by
  have hl := h.len
  have hroom := h.room
  have HM : Hid (∀ x ∈ l, matsB x.ms = true) := fun x hx => (okT_parts (hshT_mem hh (List.mem_map.2 ⟨x, hx, rfl⟩))).2.2.2
  have HR := Lib.hid hr
  clear hh hr
  go_enter Try.func21, Try.ntmps21
  go_wp2_with fail
  go_loopw [8, 11] (fun _ s11 wr => ∃ k : Nat, k ≤ n ∧ s11 = .int .i64 k ∧ Below w.heap.size w wr ∧ Hid (actT ((l.take k).map h3) L now = false)) (fun _ s11 _ => n - (intOf s11).toNat)
  case atStart => exact ⟨0, Nat.zero_le _, rfl, Below.refl _ _, by show _ = _; rfl⟩
  case round =>
    obtain ⟨k, hkn, rfl, hB, HA⟩ := hrel
    by_cases hlt : k < n
    · obtain ⟨g, o, rfl, c0, c1, c2⟩ := (h.below hB (Nat.le_refl _)).cell k hlt
      have hm := getD_mem l k (by omega)
      have HX := Lib.hid (onH_next L now l k (by omega))
      rw [HA.out, Bool.false_or] at HX
      have HN := Lib.hid (onH_hit L now l k (by omega))
      obtain ⟨hM, hMn⟩ := hk.at k (by omega)
      have hmb := HM.out _ hm
      generalize l.getD k zH = x at *
      have HO : Hid (onT L now (h3 x) = (decide (x.f ≤ now) && (decide (now < x.t) && x.ms.all (mB L)))) := rfl
      have hBA := hB.alloc hB.size (.cells (vH x) 25)
      have HAll := refAll_any x.pa x.n x.c x.ms ob nb cb L _ (hM.below hBA (Nat.le_refl _)) (hL.below hBA (Nat.le_refl _)) hnb hMn (fun j hj => matB_kind (matsB_at hmb j hj))
      rw [refAll_is HR.out hmb] at HAll
      obtain ⟨f, t, pa, q, c, ms⟩ := x
      dsimp only [vH] at *
      generalize ms.all (mB L) = a at *
      clear h hl hk hL hM hm hmb HM HA
      by_cases hf : f ≤ now
      · by_cases ht : now < t
        · cases a with
          | true =>
            have HZ := Lib.hid (HN.out (by rw [HO.out, decide_eq_true hf, decide_eq_true ht]; rfl))
            clear HX HN HO
            go_wp2_with fail
            refine HAll.mono ?_
            rintro e w1 ⟨rfl, B1⟩
            go_wp2_with fail
            go_ret
            exact ⟨retB HZ.out.symm, hBA.trans (B1.mono hBA.size)⟩
          | false =>
            have HZ : Hid (actT ((l.take (k + 1)).map h3) L now = false) := by show _ = _; rw [HX.out, HO.out]; simp
            clear HX HN HO
            go_wp2_with fail
            refine HAll.mono ?_
            rintro e w1 ⟨rfl, B1⟩
            go_wp2_with fail
            go_roundw
            case rel => exact ⟨k + 1, by omega, by go_num, hBA.trans (B1.mono hBA.size), HZ.out⟩
            case measure => simp [intOf]; omega
        · have HZ : Hid (actT ((l.take (k + 1)).map h3) L now = false) := by show _ = _; rw [HX.out, HO.out, decide_eq_false ht]; simp
          clear HX HN HO HAll
          go_wp2_with fail
          go_roundw
          case rel => exact ⟨k + 1, by omega, by go_num, hBA, HZ.out⟩
          case measure => simp [intOf]; omega
      · have HZ : Hid (actT ((l.take (k + 1)).map h3) L now = false) := by show _ = _; rw [HX.out, HO.out, decide_eq_false hf]; simp
        clear HX HN HO HAll
        go_wp2_with fail
        go_roundw
        case rel => exact ⟨k + 1, by omega, by go_num, hBA, HZ.out⟩
        case measure => simp [intOf]; omega
    · obtain rfl : k = n := by omega
      have HF : Hid (actT (l.map h3) L now = false) := by
        have := HA.out
        rw [List.take_of_length_le (by omega)] at this
        exact this
      clear HA hl h hk hL HM HR
      go_wp2_with fail
      go_ret
      exact ⟨retB HF.out.symm, hB⟩
theorem endsT_next (l : List T3) (L : List L2) (now : Int) (m : List H5) (k : Nat) (hk : k < m.length) : endsT l L now ((m.take (k + 1)).map h3) = stepE l L now (endsT l L now ((m.take k).map h3)) (h3 (m.getD k zH)) := by
  rw [takeH_next m k hk, List.map_append, List.map_singleton, endsT_snoc]
set_option maxRecDepth 100000 in
set_option maxHeartbeats 6400000 in
theorem refFree_any (oa : Option Addr) (n cap : Nat) (l : List H5) (ob : Option Addr) (nb cb : Nat) (L : List L2) (now : Int) (w : World) (h : Hs w oa n cap l) (hk : Lk w l) (hn : n ≤ 1000000) (hL : Ls w ob nb cb L) (hnb : nb ≤ 4611686018427387904) (hr : rightB L = true) (hh : hshT (l.map h3) = true) :
    Calls Try.prog 22 #[.slice oa n cap, .slice ob nb cb, .int .i64 now] w fun e w' => e = .returned (.int .i64 (refFreeT (l.map h3) L now)) ∧ Below w.heap.size w w' := by
  have hl := h.len
  have hroom := h.room
  have HAct := fun s w1 (B1 : Below w.heap.size w w1) => refActive_any oa n cap l ob nb cb L s w1 (h.below B1 (Nat.le_refl _)) (hk.below B1 (Nat.le_refl _)) hn (hL.below B1 (Nat.le_refl _)) hnb hr hh
  have HF : Hid (refFreeT (l.map h3) L now = if actT (l.map h3) L now = true then endsT (l.map h3) L now (l.map h3) else now) := rfl
  have HS : Hid (∀ out x, stepE (l.map h3) L now out x = if (decide (now < x.2.1) && (decide (x.2.1 < out) && !actT (l.map h3) L x.2.1)) = true then x.2.1 else out) := fun _ _ => rfl
  have HE := Lib.hid (endsT_next (l.map h3) L now l)
  have HE0 : Hid (endsT (l.map h3) L now ((l.take 0).map h3) = 1099511627776) := rfl
  have HTk : Hid (l.take n = l) := List.take_of_length_le (by omega)
  have HA0 := HAct now w (Below.refl _ _)
  clear hh hr hk hL
  have HEn : Hid (endsT (l.map h3) L now ((l.take n).map h3) = endsT (l.map h3) L now (l.map h3)) := by show _ = _; rw [HTk.out]
  cases ha : actT (l.map h3) L now with
  | false =>
    rw [ha] at HF HA0
    clear ha HS HE HE0 HTk h hl HEn HAct
    go_enter Try.func22, Try.ntmps22
    go_wp2_with fail
    refine HA0.mono ?_
    rintro e w1 ⟨rfl, B1⟩
    go_wp2_with fail
    go_ret
    exact ⟨retI (by rw [HF.out]; rfl), B1⟩
  | true =>
    rw [ha] at HF HA0
    have HA : Hid (∀ s w1, Below w.heap.size w w1 → Calls Try.prog 21 #[.slice oa n cap, .slice ob nb cb, .int .i64 s] w1 fun e w' => e = .returned (.bool (actT (l.map h3) L s)) ∧ Below w1.heap.size w1 w') := HAct
    clear ha HAct
    generalize hts : l.map h3 = ts at *
    clear hts
    go_enter Try.func22, Try.ntmps22
    go_wp2_with fail
    refine HA0.mono ?_
    rintro e w1 ⟨rfl, B0⟩
    clear HA0
    go_wp2_with fail
    go_loopw [7, 9, 18] (fun s7 _ s18 wr => ∃ (k : Nat) (u : Int), k ≤ n ∧ s18 = .int .i64 k ∧ s7 = .int .i64 u ∧ Below w.heap.size w wr ∧ Hid (u = endsT ts L now ((l.take k).map h3))) (fun _ _ s18 _ => n - (intOf s18).toNat)
    case atStart => exact ⟨0, _, Nat.zero_le _, rfl, rfl, B0, HE0.out.symm⟩
    case round =>
      obtain ⟨k, u, hkn, rfl, rfl, hB, HU⟩ := hrel
      by_cases hlt : k < n
      · obtain ⟨g, o, rfl, c0, c1, c2⟩ := (h.below hB (Nat.le_refl _)).cell k hlt
        have HX := Lib.hid (HE.out k (by omega))
        rw [← HU.out, HS.out] at HX
        generalize l.getD k zH = x at *
        have hBA := hB.alloc hB.size (.cells (vH x) 25)
        have VB := Vals.new wr 25 (vH x)
        have HC := HA.out x.t _ hBA
        obtain ⟨f, t, pa, q, c, ms⟩ := x
        obtain ⟨z, hz⟩ : ∃ z, z = endsT ts L now ((l.take (k + 1)).map h3) := ⟨_, rfl⟩
        rw [← hz] at HX
        have HZZ := Lib.hid hz
        clear hz
        unfold h3 at HX
        dsimp only [vH] at *
        generalize actT ts L t = a at *
        clear h hl HU HE HS
        by_cases hf : now < t
        · by_cases ht : t < u
          · cases a with
            | true =>
              have HZ : Hid (u = endsT ts L now ((l.take (k + 1)).map h3)) := by show _ = _; rw [← HZZ.out]; have e := HX.out; simp [hf, ht] at e; exact e.symm
              clear HX VB
              go_wp2_with fail
              refine HC.mono ?_
              rintro e w3 ⟨rfl, B1⟩
              go_wp2_with fail
              go_roundw
              case rel => exact ⟨k + 1, u, by omega, by go_num, rfl, hBA.trans (B1.mono hBA.size), HZ.out⟩
              case measure => simp [intOf]; omega
            | false =>
              have HZ : Hid (t = endsT ts L now ((l.take (k + 1)).map h3)) := by show _ = _; rw [← HZZ.out]; have e := HX.out; simp [hf, ht] at e; exact e.symm
              clear HX
              go_wp2_with fail
              generalize wr.alloc (.cells #[.int .i64 f, .int .i64 t, .slice pa q c] 25) = w2 at *
              refine HC.mono ?_
              rintro e w3 ⟨rfl, B1⟩
              have V3 := VB.keep B1 (Nat.le_refl _)
              have d1 : w3.cell? ⟨wr.heap.size, 1, none⟩ = some (.int .i64 t) := V3.cell 1
              clear V3 VB
              go_wp2_with fail
              go_roundw
              case rel => exact ⟨k + 1, t, by omega, by go_num, rfl, hBA.trans (B1.mono hBA.size), HZ.out⟩
              case measure => simp [intOf]; omega
          · have HZ : Hid (u = endsT ts L now ((l.take (k + 1)).map h3)) := by show _ = _; rw [← HZZ.out]; have e := HX.out; simp [hf, ht] at e; exact e.symm
            clear HX VB HC
            go_wp2_with fail
            go_roundw
            case rel => exact ⟨k + 1, u, by omega, by go_num, rfl, hBA, HZ.out⟩
            case measure => simp [intOf]; omega
        · have HZ : Hid (u = endsT ts L now ((l.take (k + 1)).map h3)) := by show _ = _; rw [← HZZ.out]; have e := HX.out; simp [hf] at e; exact e.symm
          clear HX VB HC
          go_wp2_with fail
          go_roundw
          case rel => exact ⟨k + 1, u, by omega, by go_num, rfl, hBA, HZ.out⟩
          case measure => simp [intOf]; omega
      · obtain rfl : k = n := by omega
        have HZ : Hid (u = refFreeT ts L now) := by show _ = _; rw [HU.out, HEn.out, HF.out]; simp
        clear HU HE HS HF HEn HE0 HTk h hl
        go_wp2_with fail
        go_ret
        exact ⟨retI HZ.out, hB⟩
end Go.Proofs.Ytkckdombcnifnaa
