/-
  HushAdds' walk.
-/
import Derived.Test.YtkckdombcnifnaaTurnsW
import Derived.Test.YtkckdombcnifnaaRefH
namespace Go.Proofs.Ytkckdombcnifnaa
open Go.RowKit Go.Shelf
set_option linter.unusedVariables false

/-- what the first line leaves: some hushes, one hush in its box, some labels -/
structure Some1 (w wx : World) (B : Nat) (ls : List H5) (oz : Option Addr) (cz : Nat) (y : H5) : Prop where
  lies : Hs wx oz ls.length cz ls
  link : Lk wx ls
  short : ShH ls
  box : Vals wx B 25 (vH y)
  ms : Ms wx y.pa y.n y.c y.ms
  six : y.n ≤ 6
  shorty : ShortM y.ms
  ten : ls.length ≤ 10
  below : Below w.heap.size w wx
theorem few_short {l rs : List H5} (h : rs.map h3 = fewT (l.map h3)) : ShH rs := by
  intro x hx
  have : h3 x ∈ fewT (l.map h3) := by rw [← h]; exact List.mem_map.2 ⟨x, hx, rfl⟩
  obtain ⟨y, _, e⟩ := fewT_mem this
  have e2 : x.ms = few6 y.2.2 := congrArg (fun t => t.2.2) e
  rw [e2]
  exact few6_short _
theorem cut_short {x y : H5} (h : h3 y = cutT (h3 x)) : ShortM y.ms := by
  have e2 : y.ms = few6 x.ms := congrArg (fun t => t.2.2) h
  rw [e2]
  exact few6_short _
def SomeOut (w wx : World) (B : Nat) (v : Value) : Prop := ∃ oz cz ls y, v = .slice oz ls.length cz ∧ Some1 w wx B ls oz cz y
theorem some_out {w wl : World} {B C : Nat} {v : Value} {l rs : List H5} {x y z : H5} (hO : OwnH wl C v rs) (hP : PartH wl C y) (hV : Vals wl B 25 (vH z)) (hBC : B < C) (hB : Below w.heap.size w wl) (hwB : w.heap.size ≤ B) (hE : rs.map h3 = fewT (l.map h3)) (hy : h3 y = cutT (h3 x)) :
    SomeOut w (((wl.setCell ⟨B, 0, none⟩ (.int .i64 y.f)).setCell ⟨B, 1, none⟩ (.int .i64 y.t)).setCell ⟨B, 2, none⟩ (.slice y.pa y.n y.c)) B v := by
  have hO3 := ((hO.set (a := ⟨B, 0, none⟩) hBC (.int .i64 y.f)).set (a := ⟨B, 1, none⟩) hBC (.int .i64 y.t)).set (a := ⟨B, 2, none⟩) hBC (.slice y.pa y.n y.c)
  have hP3 : PartH (((wl.setCell ⟨B, 0, none⟩ (.int .i64 y.f)).setCell ⟨B, 1, none⟩ (.int .i64 y.t)).setCell ⟨B, 2, none⟩ (.slice y.pa y.n y.c)) C y :=
    ⟨ownsRow_setCell_below (ownsRow_setCell_below (ownsRow_setCell_below hP.1 (a := ⟨B, 0, none⟩) hBC _) (a := ⟨B, 1, none⟩) hBC _) (a := ⟨B, 2, none⟩) hBC _, hP.2⟩
  have hV3 : Vals (((wl.setCell ⟨B, 0, none⟩ (.int .i64 y.f)).setCell ⟨B, 1, none⟩ (.int .i64 y.t)).setCell ⟨B, 2, none⟩ (.slice y.pa y.n y.c)) B 25 (vH y) := by
    have := ((hV.set 0 (.int .i64 y.f)).set 1 (.int .i64 y.t)).set 2 (.slice y.pa y.n y.c)
    simpa using this
  obtain ⟨oz, cz, e, hH, hLk, _⟩ := hO3.lies
  have hlen : rs.length ≤ 10 := by
    have h1 := congrArg List.length hE
    have h2 := fewT_len (l.map h3)
    rw [List.length_map] at h1
    omega
  exact ⟨oz, cz, rs, y, e, ⟨hH, hLk, few_short hE, hV3, hP3.ms, hP3.2.2, cut_short hy, hlen, ((hB.setCell (p := ⟨B, 0, none⟩) hwB _).setCell (p := ⟨B, 1, none⟩) hwB _).setCell (p := ⟨B, 2, none⟩) hwB _⟩⟩
theorem add_zero {l : List T3} {h : T3} {now : Int} (e : addF l h now = 0) : hshT l = true ∧ okT h = true ∧ timeB now = true ∧ now < h.2.1 ∧ (keptT l now).length ≤ 7 := by
  unfold addF at e
  split at e
  · rename_i h0
    simp only [Bool.and_eq_true] at h0
    split at e
    · cases e
    · split at e
      · cases e
      · have h1 := hshT_len h0.1
        have h2 : (keptT l now).length ≤ l.length := List.length_filter_le _ _
        exact ⟨h0.1, h0.2.1, h0.2.2, by omega, by omega⟩
  · cases e
theorem add_right {l : List T3} {h : T3} {now : Int} (h1 : hshT l = true) (h2 : okT h = true) (h7 : (keptT l now).length ≤ 7) : hshT (keptT l now ++ [h]) = true := by
  refine hshT_mk (by simp; omega) fun x hx => ?_
  rcases List.mem_append.1 hx with hx | hx
  · exact hshT_mem h1 (List.mem_filter.1 hx).1
  · rw [List.mem_singleton] at hx
    subst hx
    exact h2
theorem one_right {h : T3} (h2 : okT h = true) : hshT [h] = true := hshT_mk (by simp) fun x hx => by
  rw [List.mem_singleton] at hx
  subst hx
  exact h2
theorem mayT_is {l : List T3} {L : List L2} {now : Int} (h1 : hshT l = true) (h3 : timeB now = true) : mayT l L now = rightB L := by
  unfold mayT
  rw [h1, h3]
  simp
/-- what the three calls of Active tell -/
theorem adds_told {ts : List T3} {ty : T3} {now a : Int} (L : List L2) (e : addF ts ty now = 0) (h1 : now ≤ a) (h2 : timeB a = true) : ∃ (z : Int) (b1 b2 : Bool), (z = 0 ∨ (z = 1 ∧ b1 = false ∧ b2 = false)) ∧ (∀ e, ActOut ts L a e → e = .returned (.tuple #[.bool b1, .int .i64 z])) ∧ (∀ e, ActOut [ty] L a e → e = .returned (.tuple #[.bool b2, .int .i64 z])) ∧ (∀ e, ActOut (keptT ts now ++ [ty]) L a e → e = .returned (.tuple #[.bool (b1 || b2), .int .i64 z])) := by
  obtain ⟨f1, f2, f3, f4, f5⟩ := add_zero e
  have m1 := mayT_is (L := L) f1 h2
  have m2 := mayT_is (L := L) (one_right f2) h2
  have m3 := mayT_is (L := L) (add_right f1 f2 f5) h2
  cases hr : rightB L with
  | false =>
    rw [hr] at m1 m2 m3
    exact ⟨1, false, false, .inr ⟨rfl, rfl, rfl⟩, fun e q => act_no m1 q, fun e q => act_no m2 q, fun e q => act_no m3 q⟩
  | true =>
    rw [hr] at m1 m2 m3
    exact ⟨0, actT ts L a, actT [ty] L a, .inl rfl, fun e q => act_is m1 rfl q, fun e q => act_is m2 rfl q, fun e q => act_is m3 (by rw [act_append, kept_act h1]) q⟩
set_option maxRecDepth 100000 in
set_option maxHeartbeats 12800000 in
theorem adds_walk (oa : Option Addr) (n cap : Nat) (l : List H5) (x : H5) (ob : Option Addr) (nb cb : Nat) (L : List L2) (now later : Int) (w : World) (h : Hs w oa n cap l) (hk : LkB w l) (hn : cap ≤ maxLen) (hM : Ms w x.pa x.n x.c x.ms) (hx : x.n ≤ 9223372036854775807) (hL : Ls w ob nb cb L) (hnb : cb ≤ maxLen) :
    Calls Try.prog 5 #[.slice oa n cap, aggH x, .slice ob nb cb, .int .i64 now, .int .i64 later] w fun e w' => e = .returned (.bool true) ∧ Below w.heap.size w w' := by
  have hr := h.room
  have hrb := hL.room
  unfold maxLen at hn hnb
  have B0 := below_alloc w (.cells (vH x) 25)
  have V0 := Vals.new w 25 (vH x)
  have HFew := fun W (hW : Below w.heap.size w W) => few_any oa n cap l W (h.below hW (Nat.le_refl _)) (fun y hy => ⟨(hk y hy).1.below hW (Nat.le_refl _), (hk y hy).2⟩) (by omega)
  have HCut := fun W (hW : Below w.heap.size w W) => cut_any x W (hM.below hW (Nat.le_refl _)) hx
  have HSome := fun w1 (B1 : Below w.heap.size w w1) => some_any ob nb cb L w1 (hL.below B1 (Nat.le_refl _))
  have hL5 := hL.some
  have hm5 : min nb 5 ≤ 5 := Nat.min_le_right _ _
  have hsz : (w.alloc (.cells (vH x) 25)).heap.size = w.heap.size + 1 := by simp
  generalize hu : min nb 5 = u at *
  clear hu h hk hL hM
  generalize L.take u = L5 at *
  obtain ⟨hf, ht, hpa, hpn, hpc, hpm⟩ := x
  dsimp only [aggH, vH] at *
  go_enter Try.func5, Try.ntmps5
  go_upto_region 1 with fail
  generalize w.alloc (.cells #[.int .i64 hf, .int .i64 ht, .slice hpa hpn hpc] 25) = w1 at *
  obtain ⟨B, hBw⟩ : ∃ B, B = w.heap.size := ⟨_, rfl⟩
  rw [← hBw] at V0 hsz
  rw [← hBw]
  have hwB : w.heap.size ≤ B := by omega
  have HBw := Lib.hid hBw
  clear hBw
  have BD : Below w1.heap.size w1 w1.drew := (Below.refl _ _).drew
  have VD : Vals w1.drew B 25 #[.int .i64 hf, .int .i64 ht, .slice hpa hpn hpc] := V0
  have e0 : w1.drew.cell? ⟨B, 0, none⟩ = some (.int .i64 hf) := VD.cell 0
  have e1 : w1.drew.cell? ⟨B, 1, none⟩ = some (.int .i64 ht) := VD.cell 1
  have e2 : w1.drew.cell? ⟨B, 2, none⟩ = some (.slice hpa hpn hpc) := VD.cell 2
  go_cut [0, 2, 19, 20, 21, 22, 23, 24] (fun s0 s2 _ _ _ _ _ _ wx => s2 = .slice ob u cb ∧ SomeOut w wx B s0)
  case first =>
    go_region_with (first
      | (go_at_call 7; refine (HFew _ (by first | exact B0.trans (BC.mono B0.size) | exact B0.trans (BD.mono B0.size))).mono ?_; rintro e wf ⟨⟨v, rs, rfl, hO, hE⟩, Bf⟩; have BF : Below w1.heap.size w1 wf := (by first | exact BC.trans (Bf.mono BC.size) | exact BD.trans (Bf.mono BD.size)); have VF := V0.keep BF (Nat.le_refl _); have a0 : wf.cell? ⟨B, 0, none⟩ = some (.int .i64 hf) := VF.cell 0; have a1 : wf.cell? ⟨B, 1, none⟩ = some (.int .i64 ht) := VF.cell 1; have a2 : wf.cell? ⟨B, 2, none⟩ = some (.slice hpa hpn hpc) := VF.cell 2; have af0 := VF.free 0; have af1 := VF.free 1; have af2 := VF.free 2)
      | (go_at_call 8; refine (HCut _ (by first | exact B0.trans (BF.mono B0.size) | exact B0.trans (BD.mono B0.size))).mono ?_; rintro e wc ⟨⟨y, rfl, hy, hP⟩, Bc⟩; have BC : Below w1.heap.size w1 wc := (by first | exact BF.trans (Bc.mono BF.size) | exact BD.trans (Bc.mono BD.size)); have VC := V0.keep BC (Nat.le_refl _); have b0 : wc.cell? ⟨B, 0, none⟩ = some (.int .i64 hf) := VC.cell 0; have b1 : wc.cell? ⟨B, 1, none⟩ = some (.int .i64 ht) := VC.cell 1; have b2 : wc.cell? ⟨B, 2, none⟩ = some (.slice hpa hpn hpc) := VC.cell 2; have bf0 := VC.free 0; have bf1 := VC.free 1; have bf2 := VC.free 2)
      | (go_at_call 9; refine (HSome _ (by first | exact B0.trans (BC.mono B0.size) | exact B0.trans (BF.mono B0.size) | exact B0.trans (BD.mono B0.size))).mono ?_; rintro e w2 ⟨rfl, rfl⟩))
    all_goals
      have hR := (by first
        | exact some_out (x := ⟨hf, ht, hpa, hpn, hpc, hpm⟩) (z := ⟨hf, ht, hpa, hpn, hpc, hpm⟩) ((hO.base (show B + 1 ≤ _ by first | exact Nat.le_trans (Nat.le_of_eq hsz.symm) BD.size | exact Nat.le_trans (Nat.le_of_eq hsz.symm) BC.size)).keep Bc) (hP.base (show B + 1 ≤ _ by exact Nat.le_trans (Nat.le_of_eq hsz.symm) BF.size)) VC (by omega) (B0.trans (BC.mono B0.size)) hwB hE hy
        | exact some_out (x := ⟨hf, ht, hpa, hpn, hpc, hpm⟩) (z := ⟨hf, ht, hpa, hpn, hpc, hpm⟩) (hO.base (show B + 1 ≤ _ by exact Nat.le_trans (Nat.le_of_eq hsz.symm) BC.size)) ((hP.base (show B + 1 ≤ _ by exact Nat.le_trans (Nat.le_of_eq hsz.symm) BD.size)).keep Bf) VF (by omega) (B0.trans (BF.mono B0.size)) hwB hE hy : SomeOut w _ B v)
      clear HFew HCut HSome hO hP hE hy
      go_wp2_with fail
      go_meet
      case rel => exact ⟨rfl, hR⟩
  case rest =>
    obtain ⟨rfl, oz, cz, ls, y, rfl, S⟩ := hcut
    clear HFew HCut HSome BD VD e0 e1 e2 V0 B0 hsz
    have hL1 := hL5.below S.below (Nat.le_refl _)
    have HAdd := add_any oz ls.length cz ls y now wc S.lies S.link (by have := S.ten; omega) S.ms (by have := S.six; omega)
    have hten := S.ten
    have HKz : Hid (∀ {a z : Int} {b : Bool}, True) := fun {_ _ _} => trivial
    obtain ⟨f, t, pa, q, c, ms⟩ := y
    have d0 : wc.cell? ⟨B, 0, none⟩ = some (.int .i64 f) := S.box.cell 0
    have d1 : wc.cell? ⟨B, 1, none⟩ = some (.int .i64 t) := S.box.cell 1
    have d2 : wc.cell? ⟨B, 2, none⟩ = some (.slice pa q c) := S.box.cell 2
    have B1 := S.below
    have HS := Lib.hid S
    have HL1 := Lib.hid hL1
    have HAl := fun w => alive_any w
    obtain ⟨r, hr'⟩ : ∃ r, r = ls.length := ⟨_, rfl⟩
    have HR := Lib.hid hr'
    rw [← hr'] at HAdd hten ⊢
    clear hr' S hL1 hL5 HKz
    dsimp only [aggH, vH] at HAdd
    go_wp2_with fail
    refine HAdd.mono ?_
    rintro e w2 ⟨hA, B2⟩
    have B3 := B1.trans (B2.mono B1.size)
    rcases hA with ⟨hne, rfl⟩ | ⟨hz, v, rfl, hRow⟩
    · have he : (addF (ls.map h3) (h3 ⟨f, t, pa, q, c, ms⟩) now == 0) = false := by simpa using hne
      generalize addF (ls.map h3) (h3 ⟨f, t, pa, q, c, ms⟩) now = er at *
      clear HAdd
      go_wp2_with fail
      refine (HAl _).mono ?_
      rintro e w3 ⟨rfl, B4⟩
      go_wp2_with fail
      go_ret
      exact ⟨by simp, B3.trans (B4.mono B3.size)⟩
    · obtain ⟨f1, f2, f3, f4, f5⟩ := add_zero hz
      obtain ⟨n1, n2⟩ := (time_iff now).1 f3
      obtain ⟨a1, a2⟩ := spread_in (x := later) (m := 1099511627776 - now + 1) n1 (by omega) (by omega)
      have HA := Lib.hid (And.intro a1 a2)
      have HZ := Lib.hid hz
      have HFR := Lib.hid (add_right f1 f2 f5)
      obtain ⟨op, cp, rp, rfl, hHp, hLp, hEp, _⟩ := hRow
      have hmn : 0 < 1099511627776 - now + 1 := by omega
      clear HAdd a1 a2 hz f1 f2 f3 f4
      go_wp2_with fail
      obtain ⟨a1, a2⟩ := HA.out
      clear HA
      generalize wrap64 (now + wrap64 ((IntKind.u64.wrap later).tmod (1099511627776 - now + 1))) = a at *
      obtain ⟨z, b1, b2, hzb, q1, q2, q3⟩ := adds_told L5 HZ.out a1 ((time_iff a).2 ⟨by omega, by omega⟩)
      have hrp : rp.length = (keptT (ls.map h3) now).length + 1 := by
        have := congrArg List.length hEp
        simpa using this
      have hkl : (keptT (ls.map h3) now).length ≤ r := by
        have h0 : (keptT (ls.map h3) now).length ≤ (ls.map h3).length := List.length_filter_le _ _
        rw [List.length_map] at h0
        have := HR.out
        omega
      have hle : rp.length ≤ r + 1 := by omega
      have hle2 : ((rp.length : Nat) : Int) ≤ (r : Int) + 1 := by omega
      have hrp8 : rp.length ≤ 8 := by omega
      have HA1 : Calls Try.prog 11 #[.slice oz r cz, .slice ob u cb, .int .i64 a] w2 fun e w' => e = .returned (.tuple #[.bool b1, .int .i64 z]) ∧ Below w2.heap.size w2 w' :=
        (active_any oz r cz ls ob u cb L5 a w2 (by rw [HR.out]; exact HS.out.lies.below B2 (Nat.le_refl _)) (HS.out.link.below B2 (Nat.le_refl _)) (by omega) (HL1.out.below B2 (Nat.le_refl _)) (by omega)).mono fun e w' q => ⟨q1 e q.1, q.2⟩
      have HA2 : ∀ W, Below w2.heap.size w2 W → Calls Try.prog 11 #[.slice (some ⟨W.heap.size, 0, none⟩) 1 1, .slice ob u cb, .int .i64 a] (W.alloc (.cells #[.int .i64 f, .int .i64 t, .slice pa q c] 25)) fun e w' => e = .returned (.tuple #[.bool b2, .int .i64 z]) ∧ Below (W.alloc (.cells #[.int .i64 f, .int .i64 t, .slice pa q c] 25)).heap.size (W.alloc (.cells #[.int .i64 f, .int .i64 t, .slice pa q c] 25)) w' := fun W hW =>
        have hB := (B2.trans (hW.mono B2.size)).trans ((below_alloc W (.cells #[.int .i64 f, .int .i64 t, .slice pa q c] 25)).mono (Nat.le_trans B2.size hW.size))
        (active_any _ 1 1 [⟨f, t, pa, q, c, ms⟩] ob u cb L5 a _ (Hs.one W ⟨f, t, pa, q, c, ms⟩) (Lk.one (HS.out.ms.below hB (Nat.le_refl _)) (by have := HS.out.six; dsimp only at this ⊢; omega)) (by omega) (HL1.out.below hB (Nat.le_refl _)) (by omega)).mono fun e w' q => ⟨q2 e q.1, q.2⟩
      have HA3 : ∀ W, Below w2.heap.size w2 W → Calls Try.prog 11 #[.slice op rp.length cp, .slice ob u cb, .int .i64 a] W fun e w' => e = .returned (.tuple #[.bool (b1 || b2), .int .i64 z]) ∧ Below W.heap.size W w' := fun W hW =>
        (active_any op rp.length cp rp ob u cb L5 a W (hHp.below hW (Nat.le_refl _)) (hLp.below hW (Nat.le_refl _)) (by omega) ((HL1.out.below B2 (Nat.le_refl _)).below hW (Nat.le_refl _)) (by omega)).mono fun e w' q => ⟨q3 e (by rw [← hEp]; exact q.1), q.2⟩
      have HRt : ∀ W, Below w2.heap.size w2 W → Calls Try.prog 13 #[.slice op rp.length cp] W fun e w' => e = .returned (.bool true) ∧ Below W.heap.size W w' := fun W hW =>
        (hshR_any op rp.length cp rp W (hHp.below hW (Nat.le_refl _)) (hLp.below hW (Nat.le_refl _)) (by omega)).mono fun e w' q => ⟨by rw [q.1, hEp, HFR.out], q.2⟩
      have V2 := HS.out.box.keep B2 (Nat.le_refl _)
      have HZb := Lib.hid hzb
      clear q1 q2 q3 hHp hLp hEp HFR HZ HS HL1 HR B1 hrp hkl hzb f5 d0 d1 d2
      generalize rp.length = rl at *
      refine HA1.mono ?_
      rintro e w3 ⟨rfl, B4⟩
      have V3 := V2.keep B4 (Nat.le_refl _)
      have B5 := B3.trans (B4.mono B3.size)
      have d0 : w3.cell? ⟨B, 0, none⟩ = some (.int .i64 f) := V3.cell 0
      have d1 : w3.cell? ⟨B, 1, none⟩ = some (.int .i64 t) := V3.cell 1
      have d2 : w3.cell? ⟨B, 2, none⟩ = some (.slice pa q c) := V3.cell 2
      have HA22 := HA2 w3 B4
      have BC := below_alloc w3 (.cells #[.int .i64 f, .int .i64 t, .slice pa q c] 25)
      have B6 := B4.trans (BC.mono B4.size)
      have B7 := B5.trans (BC.mono B5.size)
      clear HA1 HA2 V2 V3 BC B3 B5
      go_wp2_with fail
      refine HA22.mono ?_
      rintro e w4 ⟨rfl, B8⟩
      have B9 := B6.trans (B8.mono B6.size)
      have B10 := B7.trans (B8.mono B7.size)
      clear HA22 B6 B7 B8 d0 d1 d2
      go_wp2_with fail
      refine (HA3 _ B9).mono ?_
      rintro e w5 ⟨rfl, B11⟩
      have B12 := B9.trans (B11.mono B9.size)
      have B13 := B10.trans (B11.mono B10.size)
      clear HA3 B9 B10 B11
      rcases HZb.out with rfl | ⟨rfl, rfl, rfl⟩
      · cases b1 <;> cases b2 <;>
        · go_wp2_with fail
          refine (HAl _).mono ?_
          rintro e w6 ⟨rfl, B14⟩
          have B15 := B12.trans (B14.mono B12.size)
          have B16 := B13.trans (B14.mono B13.size)
          go_wp2_with fail
          refine (HRt _ B15).mono ?_
          rintro e w7 ⟨rfl, B17⟩
          go_wp2_with fail
          go_ret
          exact ⟨rfl, B16.trans (B17.mono B16.size)⟩
      · go_wp2_with fail
        refine (HAl _).mono ?_
        rintro e w6 ⟨rfl, B14⟩
        have B15 := B12.trans (B14.mono B12.size)
        have B16 := B13.trans (B14.mono B13.size)
        go_wp2_with fail
        refine (HRt _ B15).mono ?_
        rintro e w7 ⟨rfl, B17⟩
        go_wp2_with fail
        go_ret
        exact ⟨rfl, B16.trans (B17.mono B16.size)⟩
end Go.Proofs.Ytkckdombcnifnaa
