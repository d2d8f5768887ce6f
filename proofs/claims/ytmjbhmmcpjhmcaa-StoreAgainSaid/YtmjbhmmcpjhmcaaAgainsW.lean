/-
  The walk of StoreAgain: what is found on a disk once is found there again.
-/
import Derived.Test.YtmjbhmmcpjhmcaaLogY
import Derived.Test.YtmjbhmmcpjhmcaaLogZ
import Derived.Test.YtmjbhmmcpjhmcaaDiskFacts
import Derived.Deep.DrawnRows
namespace Go.Proofs.Ytmjbhmmcpjhmcaa.storeAgain
open Go.RowKit
set_option linter.unusedVariables false
attribute [local go_sem ↓] Go.wp_at_zero Go.wp_at_succ

theorem rd_take {w : World} {oa : Option Addr} {n cap : Nat} {xs : List ByteArray} (h : Rd w oa n cap xs) {k : Nat} (hk : k ≤ n) : Rd w oa k cap (xs.take k) := by
  refine ⟨by rw [List.length_take, h.len]; omega, Nat.le_trans hk h.room, fun i hi => ?_⟩
  obtain ⟨g, hg, hc⟩ := h.cell i (by omega)
  refine ⟨g, hg, hc.trans ?_⟩
  rw [List.getD_eq_getElem?_getD, List.getD_eq_getElem?_getD, List.getElem?_take, if_pos hi]
theorem bootL_len (ss : List ByteArray) : (bootL ss).length ≤ ss.length := by
  unfold bootL
  split
  · have := recs_most ss (newZ ss)
    unfold roomN roomZ at this
    omega
  · exact Nat.zero_le _
theorem small_each {l : List ByteArray} {n : Nat} (hl : l.length = n) (h : ∀ p ∈ l, p.size ≤ 96) : ∀ i, i < n → (l.getD i ByteArray.empty).size ≤ maxLen := by
  intro i hi
  rw [List.getD_eq_getElem?_getD, List.getElem?_eq_getElem (by omega)]
  have := h _ (List.getElem_mem (by omega : i < l.length))
  unfold maxLen
  exact Nat.le_trans this (by omega)
/-- what stands in memory: the disk, the store that it tells, and its records -/
structure Mem (w0 : World) (A B : Nat) (ob : Option Addr) (k c : Nat) (ss : List ByteArray) (os : Option Addr) (ns cs : Nat) (S : St) (ol : Option Addr) (nl cl : Nat) (l : List ByteArray) (w : World) : Prop where
  disk : Var w A ob k c ss
  sto : SVar w B os ns cs S
  recs : Rd w ol nl cl l
  below : Below w0.heap.size w0 w
theorem Mem.keep {w0 : World} {A B : Nat} {ob : Option Addr} {k c : Nat} {ss : List ByteArray} {os : Option Addr} {ns cs : Nat} {S : St} {ol : Option Addr} {nl cl : Nat} {l : List ByteArray} {w w' : World} (h : Mem w0 A B ob k c ss os ns cs S ol nl cl l w) (hB : Below w.heap.size w w') : Mem w0 A B ob k c ss os ns cs S ol nl cl l w' :=
  ⟨h.disk.below hB, h.sto.keep hB, h.recs.below hB (Nat.le_refl _), h.below.trans (hB.mono h.below.size)⟩
set_option maxRecDepth 100000 in
set_option maxHeartbeats 1600000 in
theorem walk (oa : Option Addr) (n cap : Nat) (ss0 : List ByteArray) (p0 : ByteArray) (w : World) (hA : Arg w oa n cap ss0) (hp : p0.size ≤ maxLen) :
    Calls Try.prog 6 #[.agg #[.slice oa n cap], .string p0] w fun e w' => e = .returned (.bool true) ∧ Below w.heap.size w w' := by
  unfold maxLen at hp
  obtain ⟨W0, hW0⟩ : ∃ W0, W0 = w.alloc (.cells #[.slice oa n cap] 24) := ⟨_, rfl⟩
  have hB0 : Below w.heap.size w W0.drew := by rw [hW0]; exact (below_alloc w _).drew
  have A0 : W0.drew.heap[w.heap.size]? = some (.cells #[.slice oa n cap] 24 (0, 0)) := by rw [hW0]; exact heap_alloc_new w _
  have hA0 : Arg W0.drew oa n cap ss0 := ⟨hA.len, hA.room, hA.most, hA.each, fun i hi => by
    obtain ⟨b, off, h1, h2⟩ := hA.cell i hi
    exact ⟨b, off, h1, keepC hB0 h2⟩⟩
  have HW := Lib.hid hW0
  clear hW0 hA
  go_enter Try.func6, Try.ntmps6
  go_wp2_with fail
  rw [← HW.out]
  clear HW
  refine wp_region_any (by kernel_rfl) ?_
  change wpAny _ _ _ _ _ _ _ (World.drew _)
  generalize W0.drew = W1 at *
  refine wpAny_take (i := 0) (v := .pointer (some ⟨w.heap.size, 0, none⟩)) rfl (by kernel_rfl) (by kernel_rfl) (by kernel_rfl) (fun _ _ _ h => h) (Or.inl ⟨by rfl, fun v => by go_simp⟩) ?_
  refine wpAny_take (i := 4) (v := .string p0) rfl (by kernel_rfl) (by kernel_rfl) (by kernel_rfl) (fun _ _ _ h => h) (Or.inl ⟨by rfl, fun v => by go_simp⟩) ?_
  refine wpAny_take (i := 5) (v := .string p0) rfl (by kernel_rfl) (by kernel_rfl) (by kernel_rfl) (fun _ _ _ h => h) (Or.inl ⟨by rfl, fun v => by go_simp⟩) ?_
  go_simp
  refine wpAny_take (i := 6) (v := .int .i64 (p0.size : Int)) rfl (by kernel_rfl) (by kernel_rfl) (by kernel_rfl) (fun _ _ _ h => h) (Or.inl ⟨by rfl, fun v => by go_simp⟩) ?_
  refine wpAny_take (i := 7) (v := .int .i64 ((min p0.size 96 : Nat) : Int)) rfl (by kernel_rfl) (by kernel_rfl) (by kernel_rfl) (fun _ _ _ h => h) (Or.inl ⟨by rfl, fun v => ?_⟩) ?_
  · by_cases h : p0.size ≤ 96
    · rw [Nat.min_eq_left h]
      go_simp
      intro h
      omega
    · rw [Nat.min_eq_right (by omega)]
      go_simp
      intro h
      omega
  refine wpAny_take (i := 8) (v := .string (cutS 96 p0)) rfl (by kernel_rfl) (by kernel_rfl) (by kernel_rfl) (fun _ _ _ h => h) (Or.inl ⟨by rfl, fun v => ?_⟩) ?_
  · by_cases h : 96 < p0.size
    · rw [Nat.min_eq_right (by omega), cut_pos h]
      go_simp
      intro h2
      exact absurd h2 (by omega)
    · rw [Nat.min_eq_left (by omega), cut_neg h]
      go_simp
  go_simp
  have v0 := cell_of_one A0
  refine wpAny_ready (rs := [1]) (by kernel_rfl) (by simp) ?_
  refine AllReady.cons rfl (fun K hK => ?_) AllReady.nil
  go_simp
  refine hK _ _ ?_
  clear hK K v0
  refine wpAny_ready (rs := [2]) (by kernel_rfl) (by simp) ?_
  refine AllReady.cons rfl (fun K hK => ?_) AllReady.nil
  go_simp
  refine (few_any oa n cap ss0 132 W1 hA0 (by omega)).mono ?_
  rintro e w2 ⟨⟨ob, k, c, rfl, hR2⟩, hB2⟩
  have A2 := keepB hB2 A0
  have hBB := hB0.trans (hB2.mono hB0.size)
  refine hK _ _ ?_
  clear hK K hA0 hB2 A0 hB0
  refine wpAny_take (i := 3) (v := .agg #[.slice ob k c]) rfl (by kernel_rfl) (by kernel_rfl) (by kernel_rfl) (fun _ _ _ h => h) (Or.inl ⟨by rfl, fun v => by go_simp⟩) ?_
  refine wpAny_ready (rs := [9]) (by kernel_rfl) (by simp) ?_
  refine AllReady.cons rfl (fun K hK => ?_) AllReady.nil
  have v0 := cell_of_one A2
  have vf := free_of_one A2
  go_simp
  obtain ⟨W3, hW3⟩ : ∃ W3, W3 = w2.setCell ⟨w.heap.size, 0, none⟩ (.slice ob k c) := ⟨_, rfl⟩
  have V3 : Var W3 w.heap.size ob k c (fewM 132 ss0) := hW3 ▸ (⟨one_setCell A2, hR2.setDisk v0 _⟩ : Var (w2.setCell ⟨w.heap.size, 0, none⟩ (.slice ob k c)) w.heap.size ob k c (fewM 132 ss0))
  have hB3 : Below w.heap.size w W3 := hW3 ▸ hBB.setCell (Nat.le_refl _) _
  rw [← hW3]
  refine hK _ _ ?_
  clear hK K hW3 hBB A2 hR2 v0 vf
  refine wpAny_ready (rs := [10]) (by kernel_rfl) (by simp) ?_
  refine AllReady.cons rfl (fun K hK => ?_) AllReady.nil
  go_simp
  refine hK _ _ ?_
  clear hK K
  refine wpAny_done (by kernel_rfl) ?_ _
  have hkn : k ≤ 132 := by
    have h1 := V3.rd.len
    have h2 := fewM_length 132 ss0
    omega
  have hp9 := cut_size 96 p0
  generalize fewM 132 ss0 = ss at *
  generalize cutS 96 p0 = p at *
  clear hp
  have v0 := V3.cell
  have HB := Lib.hid (boot_any ob k c ss W3 V3.rd (by omega))
  rcases boot_cases ss with ⟨h1, h2⟩ | ⟨g, u, t, l, T⟩
  · rw [h2] at HB
    have b1 : (bootE ss == 0) = false := by rw [beq_eq_false_iff_ne]; rcases h1 with h | h <;> rw [h] <;> decide
    have b2 : (bootE ss != 0) = true := by rw [bne, b1]; rfl
    clear h1 h2
    generalize bootE ss = er at *
    generalize bootS ss = S at *
    go_wp2_with fail
    refine HB.out.mono ?_
    rintro e w4 ⟨⟨os, ns, cs, ol, nl, cl, rfl, hR4, hL4⟩, hB4⟩
    obtain rfl : 0 = nl := hL4.len
    have hB5 := (hB3.trans (hB4.mono hB3.size)).alloc (Nat.le_trans hB3.size hB4.size) (.cells #[.slice os ns cs, .int .i64 S.g, .int .i64 S.u, .int .i64 S.t, .bool S.d] 26)
    clear v0 hR4 hL4 hB4 hB3
    go_wp2_with fail
    refine (alive_any _).mono ?_
    rintro e w6 ⟨rfl, hB⟩
    go_wp2_with fail
    go_ret
    exact ⟨rfl, hB5.trans (hB.mono hB5.size)⟩
  rw [T.er, T.sto, T.tell] at HB
  have HT := Lib.hid T
  clear T
  go_wp2_with fail
  refine HB.out.mono ?_
  rintro e w4 ⟨⟨os, ns, cs, ol, nl, cl, rfl, hR4, hL4⟩, hB4⟩
  dsimp only at hR4 ⊢
  obtain rfl : u = (nl : Int) := by rw [HT.out.used, hL4.len]
  have hns : ns ≤ 1000 := by have := hR4.len; have := V3.rd.len; omega
  have hnl : nl ≤ 64 := by have := HT.out.few; have := room_eq HT.out.log; have := hL4.len; omega
  have M4 : Mem w w.heap.size w4.heap.size ob k c ss os ns cs ⟨ss, g, (nl : Int), t, false⟩ ol nl cl l (w4.alloc (.cells #[.slice os ns cs, .int .i64 g, .int .i64 (nl : Int), .int .i64 t, .bool false] 26)) :=
    ⟨(V3.below hB4).below (below_alloc _ _), SVar.new (S := ⟨ss, g, (nl : Int), t, false⟩) hR4, hL4.below (below_alloc _ _) (Nat.le_refl _), (hB3.trans (hB4.mono hB3.size)).alloc (Nat.le_trans hB3.size hB4.size) _⟩
  obtain ⟨B, hBd⟩ : ∃ B, B = w4.heap.size := ⟨_, rfl⟩
  have hle : w.heap.size ≤ B := by rw [hBd]; exact Nat.le_trans hB3.size hB4.size
  have HBd := Lib.hid hBd
  obtain ⟨W5, hW5⟩ : ∃ W5, W5 = w4.alloc (.cells #[.slice os ns cs, .int .i64 g, .int .i64 (nl : Int), .int .i64 t, .bool false] 26) := ⟨_, rfl⟩
  rw [← hBd, ← hW5] at M4
  have HW5 := Lib.hid hW5
  clear hW5 hBd v0 hR4 hL4 hB4 hB3 V3 HB
  obtain ⟨v0, v1, v2, v3, v4⟩ := M4.sto.cells
  dsimp only at v1 v2 v3 v4
  rw [HBd.out, HW5.out] at v0 v1 v2 v3 v4
  go_wp2_with fail
  rw [← HW5.out]
  clear v0 v1 v2 v3 v4
  have HR := Lib.hid (right4_any os ns cs ss g (nl : Int) t false W5 M4.sto.rd hns)
  rw [HT.out.right] at HR
  refine HR.out.mono ?_
  rintro e w6 ⟨rfl, hB6⟩
  have M6 := M4.keep hB6
  clear M4 hB6 HR
  obtain ⟨v0, v1, v2, v3, v4⟩ := M6.sto.cells
  dsimp only at v1 v2 v3 v4
  rw [HBd.out] at v0 v1 v2 v3 v4
  have d0 := M6.disk.cell
  have HS := Lib.hid (same_any os ns cs ss ob k c ss w6 M6.sto.rd M6.disk.rd hns (by omega))
  rw [same_self] at HS
  go_wp2_with fail
  refine HS.out.mono ?_
  rintro e w7 ⟨rfl, hB7⟩
  have M7 := M6.keep hB7
  clear M6 hB7 HS v0 v1 v2 v3 v4 d0
  go_wp2_with fail
  refine (alive_any _).mono ?_
  rintro e w8 ⟨rfl, hB8⟩
  have M8 := M7.keep hB8
  clear M7 hB8
  obtain ⟨v0, v1, v2, v3, v4⟩ := M8.sto.cells
  dsimp only at v1 v2 v3 v4
  rw [HBd.out] at v0 v1 v2 v3 v4
  have HAP := Lib.hid (append_any os ns cs ⟨ss, g, (nl : Int), t, false⟩ p (0, 0) w8 M8.sto.rd hns (by unfold maxLen; omega))
  have hmem : Hid (Mem w w.heap.size w4.heap.size ob k c ss os ns cs ⟨ss, g, (nl : Int), t, false⟩ ol nl cl l w8) := by
    show Mem _ _ _ _ _ _ _ _ _ _ _ _ _ _ _ _
    rw [← HBd.out]
    exact M8
  have hbl : Hid (Below w.heap.size w w8) := M8.below
  have hle4 : w.heap.size ≤ w4.heap.size := by rw [← HBd.out]; exact hle
  clear M8 HBd HW5 hle
  have HMO := Lib.hid (HT.out.more hp9)
  rcases HMO.out with c1 | ⟨c1, c2, c3, r, c4⟩
  rw [c1] at HAP
  clear c1 HMO
  go_wp2_with fail
  refine HAP.out.mono ?_
  rintro e w9 ⟨⟨oq, nq, cq, rfl, hR9⟩, hB9⟩
  generalize appS ⟨ss, g, (nl : Int), t, false⟩ p (0, 0) = Sa at *
  have M9 := (hmem.out.keep hB9).keep (below_alloc w9 (.cells #[.slice oq nq cq, .int .i64 Sa.g, .int .i64 Sa.u, .int .i64 Sa.t, .bool Sa.d] 26))
  clear hmem hbl hR9 hB9 v0 v1 v2 v3 v4 HAP
  obtain ⟨v0, v1, v2, v3, v4⟩ := M9.sto.cells
  dsimp only at v1 v2 v3 v4
  go_wp2_with fail
  clear v0 v1 v2 v3 v4
  obtain ⟨WT, hWT⟩ : ∃ WT, WT = w9.alloc (.cells #[.slice oq nq cq, .int .i64 Sa.g, .int .i64 Sa.u, .int .i64 Sa.t, .bool Sa.d] 26) := ⟨_, rfl⟩
  rw [← hWT] at M9 ⊢
  have MT := M9
  clear M9 hWT
  rotate_left
  rw [c1] at HAP
  have HLA := Lib.hid (append_len ⟨ss, g, (nl : Int), t, false⟩ p (0, 0))
  clear c1 HMO
  generalize appS ⟨ss, g, (nl : Int), t, false⟩ p (0, 0) = Sa at *
  go_wp2_with fail
  refine HAP.out.mono ?_
  rintro e w9 ⟨⟨oq, nq, cq, rfl, hR9⟩, hB9⟩
  have M9 := (hmem.out.keep hB9).keep (below_alloc w9 (.cells #[.slice oq nq cq, .int .i64 Sa.g, .int .i64 Sa.u, .int .i64 Sa.t, .bool Sa.d] 26))
  have A9 := SVar.new (S := Sa) hR9
  have hnq : nq ≤ 1000 := by
    have h1 := hR9.len
    have h2 := HLA.out
    have h3 := hmem.out.sto.rd.len
    dsimp only at h2 h3
    omega
  clear hmem hbl hR9 hB9 v0 v1 v2 v3 v4 HAP
  have a0 := A9.row.at0
  have HBO := Lib.hid (boot_any oq nq cq Sa.ss _ A9.rd hnq)
  rw [c2, c4] at HBO
  have C3 := Lib.hid c3
  have HLB := Lib.hid (bootL_len Sa.ss)
  rw [c4] at HLB
  clear c2 c3 c4
  generalize bootS Sa.ss = Sb at *
  go_wp2_with fail
  refine HBO.out.mono ?_
  rintro e w10 ⟨⟨ob2, nb2, cb2, om, nm, cm, rfl, hR10, hL10⟩, hB10⟩
  have M10 := (M9.keep hB10).keep (below_alloc w10 (.cells #[.slice ob2 nb2 cb2, .int .i64 Sb.g, .int .i64 Sb.u, .int .i64 Sb.t, .bool Sb.d] 26))
  have S10 := SVar.new (S := Sb) hR10
  have L10 := hL10.below (below_alloc w10 (.cells #[.slice ob2 nb2 cb2, .int .i64 Sb.g, .int .i64 Sb.u, .int .i64 Sb.t, .bool Sb.d] 26)) (Nat.le_refl _)
  have e1 := hL10.len
  have e2 := hL10.room
  have e3 := M10.recs.len
  clear M9 A9 hR10 hL10 hB10 HBO a0
  obtain ⟨v0, v1, v2, v3, v4⟩ := M10.sto.cells
  obtain ⟨y0, y1, y2, y3, y4⟩ := S10.cells
  have q1 : (Sb.g == g) = true := by rw [beq_iff_eq]; exact C3.out
  have q2 : (Sb.g != g) = false := by rw [bne, q1]; rfl
  dsimp only at v1 v2 v3 v4
  have hnm : nl + 1 ≤ nm := by
    rw [List.length_append, List.length_append] at e1
    simp at e1
    omega
  have hnm1 : (nl : Int) + 1 ≤ (nm : Int) := by omega
  have hnm2 : (nl : Int) ≤ (nm : Int) := by omega
  have hnm3 : (nl : Int) ≤ (cm : Int) := by omega
  have hnm4 : (nl : Int) < (nm : Int) := by omega
  have hnl0 : (0 : Int) ≤ (nl : Int) := by omega
  have hnm5 : nm ≤ 1000 := by
    have h1 := HLB.out
    have h2 : Sa.ss.length ≤ ss.length := HLA.out
    have h3 := M10.disk.rd.len
    omega
  obtain ⟨gm, rfl, hcm⟩ := L10.cell nl (by omega)
  have hpn : (l ++ [p] ++ r).getD nl ByteArray.empty = p := by
    rw [List.getD_eq_getElem?_getD, List.append_assoc, List.getElem?_append_right (by omega), e3, Nat.sub_self]
    rfl
  rw [hpn] at hcm
  have htk : (l ++ [p] ++ r).take nl = l := by rw [List.append_assoc, ← e3, List.take_left]
  have HTX := Lib.hid (texts_any _ nl cm _ ol nl cl l _ (rd_take L10 (by omega : nl ≤ nm)) M10.recs (by omega) (by omega))
  rw [htk, same_self] at HTX
  have HE3 := Lib.hid e3
  have HCM := Lib.hid hcm
  clear hpn htk e1 e2 e3 hnm HLA HLB hcm
  go_wp2_with fail
  refine HTX.out.mono ?_
  rintro e w11 ⟨rfl, hB11⟩
  have M11 := M10.keep hB11
  have hcm := keepC hB11 HCM.out
  clear M10 hB11 HTX HCM v0 v1 v2 v3 v4 y0 y1 y2 y3 y4 S10 L10
  obtain ⟨v0, v1, v2, v3, v4⟩ := M11.sto.cells
  dsimp only at v1 v2 v3 v4
  go_wp2_with fail
  clear v0 v1 v2 v3 v4 hcm hnm1 hnm2 hnm3 hnm4 hnm5 hnl0 q1 q2
  obtain ⟨WT, rfl⟩ : ∃ WT, WT = w11 := ⟨_, rfl⟩
  have MT := M11
  clear M11
  all_goals
    have HTU := Lib.hid (turn_any os ns cs ⟨ss, g, (nl : Int), t, false⟩ ol nl cl l none 0 0 [] WT MT.sto.rd hns (MT.recs.ard (small_each MT.recs.len HT.out.small)) (by omega) (FRd.nil _) (by omega))
    have HLT := Lib.hid (turn_len ⟨ss, g, (nl : Int), t, false⟩ l [])
    rcases HT.out.anew HT.out.small with ⟨c1, _⟩ | ⟨h, tt, AN⟩
    · rw [c1] at HTU
      clear c1
      generalize turnS ⟨ss, g, (nl : Int), t, false⟩ l [] = Sc at *
      refine HTU.out.mono ?_
      rintro e w12 ⟨⟨oc, nc, cc, rfl, hRc⟩, hBc⟩
      have hBB := (MT.below.trans (hBc.mono MT.below.size)).alloc (Nat.le_trans MT.below.size hBc.size) (.cells #[.slice oc nc cc, .int .i64 Sc.g, .int .i64 Sc.u, .int .i64 Sc.t, .bool Sc.d] 26)
      clear MT HTU hRc hBc
      go_wp2_with fail
      go_ret
      exact ⟨rfl, hBB⟩
    · rw [AN.why, AN.sto] at HTU
      have BO := AN.stands.boots
      have hlt := AN.len
      clear AN
      refine HTU.out.mono ?_
      rintro e w12 ⟨⟨oc, nc, cc, rfl, hRc⟩, hBc⟩
      dsimp only at hRc ⊢
      have MC := (MT.keep hBc).keep (below_alloc w12 (.cells #[.slice oc nc cc, .int .i64 h, .int .i64 (l.length : Int), .int .i64 h, .bool false] 26))
      have AC := SVar.new (S := ⟨tt, h, (l.length : Int), h, false⟩) hRc
      have hnc : nc ≤ 1000 := by
        have h1 := hRc.len
        have h2 := MC.disk.rd.len
        omega
      have HBO := Lib.hid (boot_any oc nc cc tt _ AC.rd hnc)
      rw [BO.1, BO.2.2] at HBO
      have C3 := Lib.hid BO.2.1
      clear BO MT HTU hRc hBc hlt HLT
      generalize bootS tt = Sd at *
      obtain ⟨a0, a1, a2, a3, a4⟩ := AC.cells
      dsimp only at a1 a2 a3 a4
      go_wp2_with fail
      refine HBO.out.mono ?_
      rintro e w13 ⟨⟨od, nd, cd, oe, ne, ce, rfl, hRd, hLd⟩, hBd⟩
      have MD := (MC.keep hBd).keep (below_alloc w13 (.cells #[.slice od nd cd, .int .i64 Sd.g, .int .i64 Sd.u, .int .i64 Sd.t, .bool Sd.d] 26))
      have AD := (AC.keep hBd).keep (below_alloc w13 (.cells #[.slice od nd cd, .int .i64 Sd.g, .int .i64 Sd.u, .int .i64 Sd.t, .bool Sd.d] 26))
      have SD := SVar.new (S := Sd) hRd
      have LD := hLd.below (below_alloc w13 (.cells #[.slice od nd cd, .int .i64 Sd.g, .int .i64 Sd.u, .int .i64 Sd.t, .bool Sd.d] 26)) (Nat.le_refl _)
      have hne : ne ≤ 1000 := by
        have h1 := LD.len
        have h2 := MD.recs.len
        omega
      have q1 : (Sd.g == h) = true := by rw [beq_iff_eq]; exact C3.out
      have HTX := Lib.hid (texts_any oe ne ce l ol nl cl l _ LD MD.recs hne (by omega))
      rw [same_self] at HTX
      clear MC AC hRd hLd hBd HBO a0 a1 a2 a3 a4 hne LD
      obtain ⟨a0, a1, a2, a3, a4⟩ := AD.cells
      dsimp only at a1 a2 a3 a4
      obtain ⟨y0, y1, y2, y3, y4⟩ := SD.cells
      go_wp2_with fail
      refine HTX.out.mono ?_
      rintro e w14 ⟨rfl, hBe⟩
      go_wp2_with fail
      go_ret
      exact ⟨rfl, MD.below.trans (hBe.mono MD.below.size)⟩
end Go.Proofs.Ytmjbhmmcpjhmcaa.storeAgain
