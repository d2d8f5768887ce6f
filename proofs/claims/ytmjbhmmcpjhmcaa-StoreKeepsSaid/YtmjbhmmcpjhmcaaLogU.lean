/-
  What a disk tells when the power comes again.
-/
import Derived.Test.YtmjbhmmcpjhmcaaLogT
namespace Go.Proofs.Ytmjbhmmcpjhmcaa
open Go.RowKit
set_option linter.unusedVariables false
attribute [local go_sem ↓] Go.wp_at_zero Go.wp_at_succ

/-- why nothing is found, or 0 -/
def bootE (ss : List ByteArray) : Int := if logB ss then (if newZ ss = 0 then 4 else 0) else 1
/-- the store that is found -/
def bootS (ss : List ByteArray) : St := if bootE ss = 0 then ⟨ss, newZ ss, ((recL ss (newZ ss)).length : Int), topZ ss (newZ ss), false⟩ else St.zero
/-- its records -/
def bootL (ss : List ByteArray) : List ByteArray := if bootE ss = 0 then recL ss (newZ ss) else []
/-- what is told: a store, its records, and why -/
def TellB (e : Ending) (w' : World) (S : St) (l : List ByteArray) (er : Int) : Prop :=
  ∃ oa n cap ol nl cl, e = .returned (.tuple #[.agg #[.slice oa n cap, .int .i64 S.g, .int .i64 S.u, .int .i64 S.t, .bool S.d], .slice ol nl cl, .int .i64 er]) ∧ Rd w' oa n cap S.ss ∧ Rd w' ol nl cl l
theorem ret_boot {fn : Func} {p q r : Tmp} (h : fn.results = #[.cell p 26, .tmp q, .tmp r]) {tmps : Array Value} {w : World} {A : Nat} {x : Value} {g u t : Int} {d : Bool} {v z : Value} (hp : tmps.getD p undef = .pointer (some ⟨A, 0, none⟩)) (hq : tmps.getD q undef = v) (hr : tmps.getD r undef = z)
    (hA : SRow w A x g u t d) (hx : x.oneCell' = true) : (results fn tmps).run Try.prog w = .ok (.tuple #[.agg #[x, .int .i64 g, .int .i64 u, .int .i64 t, .bool d], v, z]) w := by
  have l1 := load5 hA hx
  have hp' : tmps[p]?.getD undef = .pointer (some ⟨A, 0, none⟩) := by simpa using hp
  have hq' : tmps[q]?.getD undef = v := by simpa using hq
  have hr' : tmps[r]?.getD undef = z := by simpa using hr
  simp only [results, h]
  simp [hp', hq', hr', asAddr, l1]
theorem end_boot {fn : Func} {p q r : Tmp} (h : fn.results = #[.cell p 26, .tmp q, .tmp r]) {tmps : Array Value} {w0 w : World} {A : Nat} {x0 : Value} {g0 u0 t0 : Int} {d0 : Bool} {ob ol : Option Addr} {n m nl cl : Nat} {ss l : List ByteArray} {g u t : Int} {d : Bool} {er : Int}
    (hp : tmps.getD p undef = .pointer (some ⟨A, 0, none⟩)) (hq : tmps.getD q undef = .slice ol nl cl) (hr : tmps.getD r undef = .int .i64 er) (hA : SRow w A x0 g0 u0 t0 d0) (hx : ∃ a b c, x0 = .slice a b c) (hR : Rd w ob n m ss) (hL : Rd w ol nl cl l) (hB : Below w0.heap.size w0 w) (hle : w0.heap.size ≤ A) :
    bodyPost Try.prog fn (fun e w' => TellB e w' ⟨ss, g, u, t, d⟩ l er ∧ Below w0.heap.size w0 w') Exit.ret { tmps := tmps, defers := [] } (put5 w A (.slice ob n m) g u t d) :=
  bodyPost_ret (ret_boot h hp hq hr (hA.put _ _ _ _ _) rfl) rfl ⟨⟨ob, n, m, ol, nl, cl, rfl, hR.put hA hx _ _ _ _ _, hL.put hA hx _ _ _ _ _⟩, put_below hB hle _ _ _ _ _⟩
theorem tellB_at {fn : Func} {ex : Exit} {a : Act} {w w0 : World} {S S' : St} {l l' : List ByteArray} {er er' : Int} (hS : S = S') (hl : l = l') (he : er = er') (h : bodyPost Try.prog fn (fun e w' => TellB e w' S l er ∧ Below w0.heap.size w0 w') ex a w) :
    bodyPost Try.prog fn (fun e w' => TellB e w' S' l' er' ∧ Below w0.heap.size w0 w') ex a w := by
  subst hS hl he
  exact h
theorem boot_no {ss : List ByteArray} {er : Int} (h : bootE ss = er) (hne : er ≠ 0) : St.zero = bootS ss ∧ [] = bootL ss ∧ er = bootE ss := by
  unfold bootS bootL
  rw [h, if_neg hne, if_neg hne]
  exact ⟨rfl, rfl, rfl⟩
theorem bootE_1 {ss : List ByteArray} (h : logB ss = false) : bootE ss = 1 := by unfold bootE; rw [h]; rfl
theorem bootE_2 {ss : List ByteArray} (h : logB ss = true) (h2 : newZ ss = 0) : bootE ss = 4 := by unfold bootE; rw [h, h2]; rfl
theorem bootE_3 {ss : List ByteArray} (h : logB ss = true) (h2 : newZ ss ≠ 0) : bootE ss = 0 := by unfold bootE; rw [h, if_neg h2]; rfl
/-- what stands in memory meanwhile -/
structure BootI (w0 : World) (oa : Option Addr) (n cap : Nat) (ss : List ByteArray) (w : World) : Prop where
  var : w.heap[w0.heap.size]? = some (.cells #[.slice oa n cap] 24 (0, 0))
  rd : Rd w oa n cap ss
  res : SRow w (w0.heap.size + 1) (.slice none 0 0) 0 0 0 false
  below : Below w0.heap.size w0 w
theorem BootI.stable (w0 : World) (oa : Option Addr) (n cap : Nat) (ss : List ByteArray) : Stable (BootI w0 oa n cap ss) :=
  fun _ _ h hB => ⟨keepB hB h.var, h.rd.below hB (Nat.le_refl _), h.res.keep hB, h.below.trans (hB.mono h.below.size)⟩
set_option maxRecDepth 100000 in
set_option maxHeartbeats 1600000 in
theorem boot_any (oa : Option Addr) (n cap : Nat) (ss : List ByteArray) (w : World) (hR : Rd w oa n cap ss) (hn : n ≤ 1000) :
    Calls Try.prog 12 #[.agg #[.slice oa n cap]] w fun e w' => TellB e w' (bootS ss) (bootL ss) (bootE ss) ∧ Below w.heap.size w w' := by
  obtain ⟨W0, hW0⟩ : ∃ W0, W0 = (w.alloc (.cells #[.slice oa n cap] 24)).alloc (.cells #[.slice none 0 0, .int .i64 0, .int .i64 0, .int .i64 0, .bool false] 26) := ⟨_, rfl⟩
  have hI : BootI w oa n cap ss W0 := by
    refine ⟨?_, ?_, ?_, ?_⟩
    · rw [hW0, Below.heap_alloc _ _ _ (by simp)]
      exact heap_alloc_new w _
    · rw [hW0]; exact (hR.below (below_alloc w _) (Nat.le_refl _)).below (below_alloc _ _) (Nat.le_refl _)
    · unfold SRow
      rw [hW0]
      have := heap_alloc_new (w.alloc (.cells #[.slice oa n cap] 24)) (.cells #[.slice none 0 0, .int .i64 0, .int .i64 0, .int .i64 0, .bool false] 26)
      simpa using this
    · rw [hW0]; exact (below_alloc w _).alloc (by simp) _
  have HW := Lib.hid hW0
  clear hW0
  have hlen := Lib.hid hR.len
  obtain ⟨I, hID⟩ : ∃ I : World → Prop, I = BootI w oa n cap ss := ⟨_, rfl⟩
  have st : Hid (Stable I) := by rw [hID]; exact BootI.stable w oa n cap ss
  have gI : Hid (∀ wx, I wx → BootI w oa n cap ss wx) := by intro wx h; rw [hID] at h; exact h
  have hI0 : I W0 := by rw [hID]; exact hI
  clear hID hR
  have v0 := cell_of_one hI.var
  have hw0 : w.heap.size ≤ w.heap.size + 1 := by omega
  have K1 := Lib.hid (hasLog_any oa n cap ss W0 hI.rd hn)
  clear hI
  go_enter Try.func12, Try.ntmps12
  go_wp2_with fail
  rw [← HW.out]
  clear HW
  refine K1.out.mono ?_
  rintro e w1 ⟨rfl, hB⟩
  have hI1 := st.out _ _ hI0 hB
  clear v0 hB K1 hI0
  cases b1 : logB ss
  · have HE := Lib.hid (boot_no (bootE_1 b1) (by decide))
    clear b1
    have J := gI.out _ hI1
    obtain ⟨p0, p1, p2, p3, p4⟩ := J.res.cells
    have pf := J.res.free
    go_wp2_with fail
    refine tellB_at HE.out.1 HE.out.2.1 HE.out.2.2 ?_
    exact end_boot rfl rfl rfl rfl J.res ⟨_, _, _, rfl⟩ (Rd.nil _) (Rd.nil _) J.below hw0
  have B1 := Lib.hid b1
  clear b1
  have hId := st.out.drew hI1
  haveI : Nonempty (Cls I) := ⟨⟨_, hId⟩⟩
  have gC0 : ∀ x : Cls I, x.w.cell? ⟨w.heap.size, 0, none⟩ = some (.slice oa n cap) := fun x => cell_of_one (gI.out _ x.is).var
  have KA : Hid (∀ x : Cls I, Calls Try.prog 36 #[.agg #[.slice oa n cap], .int .i64 0] x.w fun e w'' => e = .returned (.int .i64 (headZ (secA ss 0) 0)) ∧ ∃ y : Cls I, w'' = y.w) :=
    fun x => class_of st.out (headed_any _ _ _ ss 0 _ (gI.out _ x.is).rd B1.out (by omega))
  have KB : Hid (∀ x : Cls I, Calls Try.prog 36 #[.agg #[.slice oa n cap], .int .i64 1] x.w fun e w'' => e = .returned (.int .i64 (headZ (secA ss 1) 1)) ∧ ∃ y : Cls I, w'' = y.w) :=
    fun x => class_of st.out (headed_any _ _ _ ss 1 _ (gI.out _ x.is).rd B1.out (by omega))
  have HZ : Hid (newZ ss = max (headZ (secA ss 0) 0) (headZ (secA ss 1) 1)) := rfl
  go_wp2_with fail
  generalize headZ (secA ss 0) 0 = a at *
  generalize headZ (secA ss 1) 1 = b at *
  refine wp_region_class I (by kernel_rfl) (by kernel_rfl) hId ?_
  iterate 3 (go_big_quiet_step (exact KA.out _))
  go_big_quiet_step (exact KB.out _)
  repeat (go_big_quiet_step (fail))
  refine wpQuiet_nil ?_
  rintro _ ⟨x, rfl⟩
  have HZ2 : Hid ((if a < b then b else a) = newZ ss) := by
    show _ = _
    rw [HZ.out]
    split <;> omega
  rw [HZ2.out]
  clear KA KB HZ HZ2 gC0
  obtain ⟨wx, hI2⟩ := x
  dsimp only
  have hbd := new_bounds ss
  have HB1 : Hid (newZ ss ≠ 0 → bootE ss = 0) := bootE_3 B1.out
  have HB2 : Hid (newZ ss = 0 → bootE ss = 4) := bootE_2 B1.out
  have HS : Hid (bootE ss = 0 → bootS ss = ⟨ss, newZ ss, ((recL ss (newZ ss)).length : Int), topZ ss (newZ ss), false⟩ ∧ bootL ss = recL ss (newZ ss)) := by
    intro h
    unfold bootS bootL
    rw [if_pos h, if_pos h]
    exact ⟨rfl, rfl⟩
  generalize newZ ss = g at *
  by_cases hg : g = 0
  · have HE := Lib.hid (boot_no (HB2.out hg) (by decide))
    subst hg
    have J := gI.out _ hI2
    obtain ⟨p0, p1, p2, p3, p4⟩ := J.res.cells
    have pf := J.res.free
    clear hbd
    go_wp2_with fail
    refine tellB_at HE.out.1 HE.out.2.1 HE.out.2.2 ?_
    exact end_boot rfl rfl rfl rfl J.res ⟨_, _, _, rfl⟩ (Rd.nil _) (Rd.nil _) J.below hw0
  have hg' : (g == 0) = false := by rw [beq_eq_false_iff_ne]; exact hg
  have HE := Lib.hid (HB1.out hg)
  have HE2 := Lib.hid (HS.out HE.out)
  have HR := Lib.hid (records_any oa n cap ss g wx (gI.out _ hI2).rd B1.out (by omega) hbd.2)
  have v0 := cell_of_one (gI.out _ hI2).var
  clear HB1 HB2 HS hg hbd
  go_wp2_with fail
  refine HR.out.mono ?_
  rintro e w3 ⟨⟨ol, cl, rfl, hL3⟩, hB3⟩
  have hI3 := st.out _ _ hI2 hB3
  clear HR v0 hB3 hI2 hg'
  have HTP : Hid (∀ wx, I wx → Calls Try.prog 39 #[.agg #[.slice oa n cap], .int .i64 g] wx fun e w' => e = .returned (.int .i64 (topZ ss g)) ∧ Below wx.heap.size wx w') :=
    fun wx h => top_any _ _ _ ss g wx (gI.out _ h).rd B1.out
  have HOW : Hid (∀ wx, I wx → Calls Try.prog 38 #[.agg #[.slice oa n cap]] wx fun e w' => (∃ ob m, e = .returned (.agg #[.slice ob n m]) ∧ Rd w' ob n m ss) ∧ Below wx.heap.size wx w') := by
    intro wx h
    have hR := (gI.out _ h).rd
    obtain ⟨ga, rfl, _⟩ := hR.cell 0 (by have := (log_bounds B1.out).1; have := hlen.out; omega)
    exact ownDisk_any ga n cap ss wx hR hn
  obtain ⟨I2, hID⟩ : ∃ I2 : World → Prop, I2 = fun wx => I wx ∧ Rd wx ol (recL ss g).length cl (recL ss g) := ⟨_, rfl⟩
  have st2 : Hid (Stable I2) := by rw [hID]; exact st.out.and (Stable.rd _ _ _ _)
  have gI2 : Hid (∀ wx, I2 wx → I wx ∧ Rd wx ol (recL ss g).length cl (recL ss g)) := by intro wx h; rw [hID] at h; exact h
  have hJ3 : I2 w3 := by rw [hID]; exact ⟨hI3, hL3⟩
  clear hID hI3 hL3
  generalize topZ ss g = tp at *
  generalize recL ss g = l at *
  go_wp2_with fail
  obtain ⟨S, hSD⟩ : ∃ S : World → Prop, S = fun wx => wx.heap[w.heap.size]? = some (.cells #[.slice oa n cap] 24 (0, 0)) := ⟨_, rfl⟩
  have gS : Hid (∀ wx, S wx → wx.heap[w.heap.size]? = some (.cells #[.slice oa n cap] 24 (0, 0))) := by intro wx h; rw [hSD] at h; exact h
  have mS : Hid (∀ wx, wx.heap[w.heap.size]? = some (.cells #[.slice oa n cap] 24 (0, 0)) → S wx) := by intro wx h; rw [hSD]; exact h
  clear hSD
  refine wp_region_taken S 13 (by kernel_rfl) ?_
  have hJ4 := st2.out.drew hJ3
  clear hJ3
  generalize w3.drew = wd at *
  have hS4 := mS.out _ (gI.out _ (gI2.out _ hJ4).1).var
  refine wpT_take (i := 0) (v := .agg #[.slice oa n cap]) rfl (by kernel_rfl) (by kernel_rfl) (by kernel_rfl) (fun _ _ _ h => h) (Or.inl ⟨by rfl, fun v hv => ?_⟩) hS4 ?_
  · have v0 := cell_of_one (gS.out _ hv)
    go_simp
  refine wpT_take (i := 2) (v := .int .i64 g) rfl (by kernel_rfl) (by kernel_rfl) (by kernel_rfl) (fun _ _ _ h => h) (Or.inl ⟨by rfl, fun v hv => by go_simp⟩) hS4 ?_
  refine wpT_take (i := 3) (v := .slice ol l.length cl) rfl (by kernel_rfl) (by kernel_rfl) (by kernel_rfl) (fun _ _ _ h => h) (Or.inl ⟨by rfl, fun v hv => by go_simp⟩) hS4 ?_
  refine wpT_take (i := 4) (v := .int .i64 (l.length : Int)) rfl (by kernel_rfl) (by kernel_rfl) (by kernel_rfl) (fun _ _ _ h => h) (Or.inl ⟨by rfl, fun v hv => by go_simp⟩) hS4 ?_
  refine wpT_take (i := 5) (v := .agg #[.slice oa n cap]) rfl (by kernel_rfl) (by kernel_rfl) (by kernel_rfl) (fun _ _ _ h => h) (Or.inl ⟨by rfl, fun v hv => ?_⟩) hS4 ?_
  · have v0 := cell_of_one (gS.out _ hv)
    go_simp
  refine wpT_take (i := 6) (v := .int .i64 g) rfl (by kernel_rfl) (by kernel_rfl) (by kernel_rfl) (fun _ _ _ h => h) (Or.inl ⟨by rfl, fun v hv => by go_simp⟩) hS4 ?_
  refine wpT_take (i := 9) (v := .slice ol l.length cl) rfl (by kernel_rfl) (by kernel_rfl) (by kernel_rfl) (fun _ _ _ h => h) (Or.inl ⟨by rfl, fun v hv => by go_simp⟩) hS4 ?_
  refine wpT_ready (rs := [1]) (by kernel_rfl) (by simp) ?_
  refine AllT.cons rfl (fun K hK => ?_) AllT.nil
  go_simp
  refine (HOW.out _ (gI2.out _ hJ4).1).mono ?_
  rintro e w5 ⟨⟨ob, m, rfl, hR5⟩, hB5⟩
  have hJ5 := st2.out _ _ hJ4 hB5
  refine hK _ _ (fun _ => mS.out _ (gI.out _ (gI2.out _ hJ5).1).var) ?_
  clear hK K hB5
  refine wpT_ready (rs := [7]) (by kernel_rfl) (by simp) ?_
  refine AllT.cons rfl (fun K hK => ?_) AllT.nil
  go_simp
  refine (HTP.out _ (gI2.out _ hJ5).1).mono ?_
  rintro e w6 ⟨rfl, hB6⟩
  have hJ6 := st2.out _ _ hJ5 hB6
  have hR6 := hR5.below hB6 (Nat.le_refl _)
  refine hK _ _ (fun _ => mS.out _ (gI.out _ (gI2.out _ hJ6).1).var) ?_
  clear hK K hB6 hJ5 hR5
  have J := gI.out _ (gI2.out _ hJ6).1
  have hL6 := (gI2.out _ hJ6).2
  have hS6 := mS.out _ J.var
  refine wpT_take (i := 8) (v := .agg #[.slice ob n m, .int .i64 g, .int .i64 (l.length : Int), .int .i64 tp, .bool false]) rfl (by kernel_rfl) (by kernel_rfl) (by kernel_rfl) (fun _ _ _ h => h) (Or.inl ⟨by rfl, fun v hv => by go_simp⟩) hS6 ?_
  refine wpT_ready (rs := [10]) (by kernel_rfl) (by simp) ?_
  refine AllT.cons (o := ⟨none, .store 26 (.tmp 2) (.tmp 30), 0, _, _, none⟩) rfl (fun K hK => ?_) AllT.nil
  rw [if_pos (show Region.wanted _ _ = true from rfl)]
  refine wp_store5 rfl rfl J.res ?_
  have hS7 : S (put5 w6 (w.heap.size + 1) (.slice ob n m) g (l.length : Int) tp false) := mS.out _ ((put_other _ _ _ _ _ _ _ _ (by omega)).trans J.var)
  refine hK _ _ (fun _ => hS7) ?_
  clear hK K
  refine wpT_ready (rs := [11]) (by kernel_rfl) (by simp) ?_
  refine AllT.cons rfl (fun K hK => ?_) AllT.nil
  have HS7 := Lib.hid hS7
  clear hS7
  go_simp
  refine hK _ _ (fun _ => HS7.out) ?_
  clear hK K
  refine wpT_ready (rs := [12]) (by kernel_rfl) (by simp) ?_
  refine AllT.cons rfl (fun K hK => ?_) AllT.nil
  go_simp
  refine hK _ _ (fun _ => HS7.out) ?_
  clear hK K
  refine wpT_done (by kernel_rfl) ?_ _
  go_wp2_with fail
  refine tellB_at HE2.out.1.symm HE2.out.2.symm HE.out.symm ?_
  exact end_boot rfl rfl rfl rfl J.res ⟨_, _, _, rfl⟩ hR6 hL6 J.below hw0
end Go.Proofs.Ytmjbhmmcpjhmcaa
