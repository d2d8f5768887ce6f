/-
  The walk of StoreTurns: all records anew have a generation above all that were there; one more is found behind them.
-/
import Derived.Test.YtmjbhmmcpjhmcaaLogY
import Derived.Test.YtmjbhmmcpjhmcaaLogZ
import Derived.Test.YtmjbhmmcpjhmcaaOwn4
import Derived.Test.YtmjbhmmcpjhmcaaDiskFacts
import Derived.Deep.DrawnRows
namespace Go.Proofs.Ytmjbhmmcpjhmcaa.storeTurns
open Go.RowKit
set_option linter.unusedVariables false
attribute [local go_sem ↓] Go.wp_at_zero Go.wp_at_succ

/-- what stands in memory: the disk, the row that is made of it, the store that it tells -/
structure Mem (w0 : World) (A B : Nat) (ob : Option Addr) (k c : Nat) (ss : List ByteArray) (os : Option Addr) (ns cs : Nat) (S : St) (C : Nat) (ol : Option Addr) (m cl : Nat) (l : List ByteArray) (w : World) : Prop where
  disk : Var w A ob k c ss
  sto : SVar w B os ns cs S
  own : w.ownsRow C 9 1 (.slice ol m cl) m (strCells l)
  recs : Rd w ol m cl l
  low : w0.heap.size ≤ C
  base : C ≤ w.heap.size
  below : Below w0.heap.size w0 w
theorem Mem.keep {w0 : World} {A B : Nat} {ob : Option Addr} {k c : Nat} {ss : List ByteArray} {os : Option Addr} {ns cs : Nat} {S : St} {C : Nat} {ol : Option Addr} {m cl : Nat} {l : List ByteArray} {w w' : World} (h : Mem w0 A B ob k c ss os ns cs S C ol m cl l w) (hB : Below w.heap.size w w') : Mem w0 A B ob k c ss os ns cs S C ol m cl l w' :=
  ⟨h.disk.below hB, h.sto.keep hB, own_below h.own hB, h.recs.below hB (Nat.le_refl _), h.low, Nat.le_trans h.base hB.size, h.below.trans (hB.mono h.below.size)⟩
set_option maxRecDepth 100000 in
set_option maxHeartbeats 3200000 in
theorem walk (oa : Option Addr) (n cap : Nat) (ss0 : List ByteArray) (ol0 : Option Addr) (nl0 cl0 : Nat) (ls0 : List ByteArray) (p0 : ByteArray) (w : World) (hA : Arg w oa n cap ss0) (hL : Arg w ol0 nl0 cl0 ls0) (hp : p0.size ≤ maxLen) :
    Calls Try.prog 7 #[.agg #[.slice oa n cap], .slice ol0 nl0 cl0, .string p0] w fun e w' => e = .returned (.bool true) ∧ Below w.heap.size w w' := by
  unfold maxLen at hp
  obtain ⟨i0, hi, hz0, hz1, hz2⟩ := info_parts info9
  obtain ⟨W0, hW0⟩ : ∃ W0, W0 = w.alloc (.cells #[.slice oa n cap] 24) := ⟨_, rfl⟩
  have hB0 : Below w.heap.size w W0.drew := by rw [hW0]; exact (below_alloc w _).drew
  have A0 : W0.drew.heap[w.heap.size]? = some (.cells #[.slice oa n cap] 24 (0, 0)) := by rw [hW0]; exact heap_alloc_new w _
  have hA0 : Arg W0.drew oa n cap ss0 := hA.below hB0
  have HW := Lib.hid hW0
  clear hW0 hA
  go_enter Try.func7, Try.ntmps7
  go_wp2_with fail
  rw [← HW.out]
  clear HW
  refine wp_region_any (by kernel_rfl) ?_
  change wpAny _ _ _ _ _ _ _ (World.drew _)
  generalize W0.drew = W1 at *
  refine wpAny_take (i := 0) (v := .pointer (some ⟨w.heap.size, 0, none⟩)) rfl (by kernel_rfl) (by kernel_rfl) (by kernel_rfl) (fun _ _ _ h => h) (Or.inl ⟨by rfl, fun v => by go_simp⟩) ?_
  refine wpAny_take (i := 4) (v := .string p0) rfl (by kernel_rfl) (by kernel_rfl) (by kernel_rfl) (fun _ _ _ h => h) (Or.inl ⟨by rfl, fun v => by go_simp⟩) ?_
  refine wpAny_take (i := 5) (v := .string p0) rfl (by kernel_rfl) (by kernel_rfl) (by kernel_rfl) (fun _ _ _ h => h) (Or.inl ⟨by rfl, fun v => by go_simp⟩) ?_
  go_simp
  refine wpAny_take (i := 6) (v := .int .i64 (p0.size : Int)) rfl (by kernel_rfl) (by kernel_rfl) (by kernel_rfl) (fun _ _ _ h => h) (Or.inl ⟨by rfl, fun v => by go_simp⟩) ?_
  refine wpAny_take (i := 7) (v := .int .i64 ((min p0.size 96 : Nat) : Int)) rfl (by kernel_rfl) (by kernel_rfl) (by kernel_rfl) (fun _ _ _ h => h) (Or.inl ⟨by rfl, fun v => ?_⟩) ?_
  · by_cases h : p0.size ≤ 96
    · rw [Nat.min_eq_left h]
      go_simp
      intro h
      omega
    · rw [Nat.min_eq_right (by omega)]
      go_simp
      intro h
      omega
  refine wpAny_take (i := 8) (v := .string (cutS 96 p0)) rfl (by kernel_rfl) (by kernel_rfl) (by kernel_rfl) (fun _ _ _ h => h) (Or.inl ⟨by rfl, fun v => ?_⟩) ?_
  · by_cases h : 96 < p0.size
    · rw [Nat.min_eq_right (by omega), cut_pos h]
      go_simp
      intro h2
      exact absurd h2 (by omega)
    · rw [Nat.min_eq_left (by omega), cut_neg h]
      go_simp
  go_simp
  have v0 := cell_of_one A0
  refine wpAny_ready (rs := [1]) (by kernel_rfl) (by simp) ?_
  refine AllReady.cons rfl (fun K hK => ?_) AllReady.nil
  go_simp
  refine hK _ _ ?_
  clear hK K v0
  refine wpAny_ready (rs := [2]) (by kernel_rfl) (by simp) ?_
  refine AllReady.cons rfl (fun K hK => ?_) AllReady.nil
  go_simp
  refine (few_any oa n cap ss0 132 W1 hA0 (by omega)).mono ?_
  rintro e w2 ⟨⟨ob, k, c, rfl, hR2⟩, hB2⟩
  have A2 := keepB hB2 A0
  have hBB := hB0.trans (hB2.mono hB0.size)
  refine hK _ _ ?_
  clear hK K hA0 hB2 A0 hB0
  refine wpAny_take (i := 3) (v := .agg #[.slice ob k c]) rfl (by kernel_rfl) (by kernel_rfl) (by kernel_rfl) (fun _ _ _ h => h) (Or.inl ⟨by rfl, fun v => by go_simp⟩) ?_
  refine wpAny_ready (rs := [9]) (by kernel_rfl) (by simp) ?_
  refine AllReady.cons rfl (fun K hK => ?_) AllReady.nil
  have v0 := cell_of_one A2
  have vf := free_of_one A2
  go_simp
  obtain ⟨W3, hW3⟩ : ∃ W3, W3 = w2.setCell ⟨w.heap.size, 0, none⟩ (.slice ob k c) := ⟨_, rfl⟩
  have V3 : Var W3 w.heap.size ob k c (fewM 132 ss0) := hW3 ▸ (⟨one_setCell A2, hR2.setDisk v0 _⟩ : Var (w2.setCell ⟨w.heap.size, 0, none⟩ (.slice ob k c)) w.heap.size ob k c (fewM 132 ss0))
  have hB3 : Below w.heap.size w W3 := hW3 ▸ hBB.setCell (Nat.le_refl _) _
  rw [← hW3]
  refine hK _ _ ?_
  clear hK K hW3 hBB A2 hR2 v0 vf
  refine wpAny_ready (rs := [10]) (by kernel_rfl) (by simp) ?_
  refine AllReady.cons rfl (fun K hK => ?_) AllReady.nil
  go_simp
  refine hK _ _ ?_
  clear hK K
  refine wpAny_done (by kernel_rfl) ?_ _
  have hkn : k ≤ 132 := by
    have h1 := V3.rd.len
    have h2 := fewM_length 132 ss0
    omega
  have hp9 := cut_size 96 p0
  have hL3 := hL.below hB3
  generalize fewM 132 ss0 = ss at *
  generalize cutS 96 p0 = p at *
  clear hp hL
  go_wp2_with fail
  refine (few_any ol0 nl0 cl0 ls0 64 W3 hL3 (by omega)).mono ?_
  rintro e w4 ⟨⟨o4, m, c4, rfl, hR4⟩, hB4⟩
  have V4 := V3.below hB4
  have hB5 := hB3.trans (hB4.mono hB3.size)
  have hm : m ≤ 64 := by
    have h1 := hR4.len
    have h2 := fewM_length 64 ls0
    omega
  have hsm := Lib.hid (fewM_small 64 ls0)
  generalize fewM 64 ls0 = lf at *
  have hlf := Lib.hid hR4.len
  clear V3 hB3 hB4 hL3
  go_wp2_with fail
  go_loopw [7, 33] (fun v i wr => ∃ j : Nat, j ≤ m ∧ i = .int .i64 j ∧ wr.ownsRow w4.heap.size 9 1 v j (strCells ((lf.map (cutS 96)).take j)) ∧ Below w4.heap.size w4 wr ∧ Hid (w4.heap.size ≤ wr.heap.size)) (fun _ i _ => m - (intOf i).toNat)
  case atStart => exact ⟨0, Nat.zero_le _, rfl, World.ownsRow_nil _ _ _ _, Below.refl _ _, Nat.le_refl _⟩
  case round =>
    obtain ⟨j, hj, rfl, hown, hB, hS⟩ := hrel
    by_cases h8 : j < m
    · obtain ⟨b, rfl, hc0⟩ := hR4.cell j h8
      have hc := keepC hB hc0
      have HT := Lib.hid (map_take4 (cutS 96) lf j (by rw [hlf.out]; exact h8))
      have hsz := hsm.out _ (getD_mem4 (by rw [hlf.out]; exact h8))
      clear hc0
      generalize lf.getD j ByteArray.empty = x at *
      by_cases hx : 96 < x.size
      · have hcut : Hid (cutS 96 x = x.extract 0 96) := by show _ = _; unfold cutS; rw [if_pos hx]
        go_wp2_with (at_builtin; refine wpList_append_own _ rfl _ _ 22 rfl w4.heap.size 9 i0 (.string ⟨#[]⟩) 1 16 Try.underlying22 hi hz0 hz1 hz2 rfl (by decide) _ _ _ rfl (hown.alloc _) ⟨wr.heap.size, 0, none⟩ 1 1 [.string (x.extract 0 96)] rfl rfl (one_new _ _ _) (one_cell _) (by unfold maxLen; omega) (by omega) (by have := hS.out; simp; omega) ?_; intro v' w1 hown' hgrow _)
        have R := grow_row hown hB hS.out hgrow
        rw [← hcut.out, ← strCells_snoc, ← HT.out] at hown'
        have HO := Lib.hid hown'
        clear hown' hgrow hown hc hB hS
        go_wp2_with fail
        go_roundw
        case rel => exact ⟨j + 1, by omega, by go_num, HO.out, R.1, R.2⟩
        case measure => simp [intOf]; omega
      · have hcut : Hid (cutS 96 x = x) := by show _ = _; unfold cutS; rw [if_neg hx]
        go_wp2_with (at_builtin; refine wpList_append_own _ rfl _ _ 22 rfl w4.heap.size 9 i0 (.string ⟨#[]⟩) 1 16 Try.underlying22 hi hz0 hz1 hz2 rfl (by decide) _ _ _ rfl (hown.alloc _) ⟨wr.heap.size, 0, none⟩ 1 1 [.string x] rfl rfl (one_new _ _ _) (one_cell _) (by unfold maxLen; omega) (by omega) (by have := hS.out; simp; omega) ?_; intro v' w1 hown' hgrow _)
        have R := grow_row hown hB hS.out hgrow
        rw [← hcut.out, ← strCells_snoc, ← HT.out] at hown'
        have HO := Lib.hid hown'
        clear hown' hgrow hown hc hB hS
        go_wp2_with fail
        go_roundw
        case rel => exact ⟨j + 1, by omega, by go_num, HO.out, R.1, R.2⟩
        case measure => simp [intOf]; omega
    · obtain rfl : j = m := by omega
      have hlm : (lf.map (cutS 96)).length = j := by rw [List.length_map]; exact hlf.out
      rw [List.take_of_length_le (by rw [hlm]; exact Nat.le_refl _)] at hown
      have hsl := cut_all4 lf
      generalize lf.map (cutS 96) = l at *
      obtain ⟨ol, cl, rfl, hRs, hlow⟩ := Rd.of_own hlm hown
      have V5 := V4.below hB
      have hBB := hB5.trans (hB.mono hB5.size)
      have hw4 : w.heap.size ≤ w4.heap.size := hB5.size
      have HS := Lib.hid hsl
      have HLM := Lib.hid hlm
      clear V4 hB5 hB hR4 hsm hlf hsl hlm hlow h8 hj
      have hkl := Lib.hid V5.rd.len
      have v0 := V5.cell
      have HB := Lib.hid (boot_any ob k c ss wr V5.rd (by omega))
      rcases boot_cases ss with ⟨h1, h2⟩ | ⟨g, u, t, lr, T⟩
      · rw [h2] at HB
        have b1 : (bootE ss == 0) = false := by rw [beq_eq_false_iff_ne]; rcases h1 with h | h <;> rw [h] <;> decide
        have b2 : (bootE ss != 0) = true := by rw [bne, b1]; rfl
        have b3 : (bootE ss == 5) = false := by rw [beq_eq_false_iff_ne]; rcases h1 with h | h <;> rw [h] <;> decide
        have b4 : (bootE ss != 5) = true := by rw [bne, b3]; rfl
        clear h1 h2
        generalize bootE ss = er at *
        generalize bootS ss = S at *
        go_wp2_with fail
        refine HB.out.mono ?_
        rintro e w6 ⟨⟨os, ns, cs, ol6, nl6, cl6, rfl, hR6, hL6⟩, hB6⟩
        have hB7 := (hBB.trans (hB6.mono hBB.size)).alloc (Nat.le_trans hBB.size hB6.size) (.cells #[.slice os ns cs, .int .i64 S.g, .int .i64 S.u, .int .i64 S.t, .bool S.d] 26)
        clear v0 hR6 hL6 hB6 hBB HB
        go_wp2_with fail
        refine (alive_any _).mono ?_
        rintro e w8 ⟨rfl, hB⟩
        go_wp2_with fail
        go_ret
        exact ⟨rfl, hB7.trans (hB.mono hB7.size)⟩
      rw [T.er, T.sto, T.tell] at HB
      have HT := Lib.hid T
      clear T
      go_wp2_with fail
      refine HB.out.mono ?_
      rintro e w6 ⟨⟨os, ns, cs, ol6, nl6, cl6, rfl, hR6, hL6⟩, hB6⟩
      dsimp only at hR6 ⊢
      have hns : ns ≤ 1000 := by have := hR6.len; have := V5.rd.len; omega
      have M6 : Mem w w.heap.size w6.heap.size ob k c ss os ns cs ⟨ss, g, u, t, false⟩ w4.heap.size ol j cl l (w6.alloc (.cells #[.slice os ns cs, .int .i64 g, .int .i64 u, .int .i64 t, .bool false] 26)) :=
        ⟨(V5.below hB6).below (below_alloc _ _), SVar.new (S := ⟨ss, g, u, t, false⟩) hR6, (own_below hown hB6).alloc _, (hRs.below hB6 (Nat.le_refl _)).below (below_alloc _ _) (Nat.le_refl _), hw4, by have h1 := hS.out; have h2 := hB6.size; simp; omega, (hBB.trans (hB6.mono hBB.size)).alloc (Nat.le_trans hBB.size hB6.size) _⟩
      obtain ⟨B, hBd⟩ : ∃ B, B = w6.heap.size := ⟨_, rfl⟩
      have HBd := Lib.hid hBd
      obtain ⟨W7, hW7⟩ : ∃ W7, W7 = w6.alloc (.cells #[.slice os ns cs, .int .i64 g, .int .i64 u, .int .i64 t, .bool false] 26) := ⟨_, rfl⟩
      rw [← hBd, ← hW7] at M6
      have HW7 := Lib.hid hW7
      clear hW7 hBd v0 hR6 hL6 hB6 hBB V5 HB hown hRs hS
      obtain ⟨v0, v1, v2, v3, v4⟩ := M6.sto.cells
      dsimp only at v1 v2 v3 v4
      rw [HBd.out, HW7.out] at v0 v1 v2 v3 v4
      go_wp2_with fail
      rw [← HW7.out]
      rw [← HW7.out] at v0 v1 v2 v3 v4
      clear HW7
      have hns2 := hns
      have HTU := Lib.hid (turn_any os ns cs ⟨ss, g, u, t, false⟩ ol j cl l none 0 0 [] W7 M6.sto.rd hns (M6.recs.ard (small_each4 HLM.out HS.out)) (by omega) (FRd.nil _) (by omega))
      have HLT := Lib.hid (turn_len ⟨ss, g, u, t, false⟩ l [])
      have hk0 : (0 : Int) ≤ (k : Int) := by omega
      rcases HT.out.anew HS.out with ⟨c1, c2⟩ | ⟨h, tt, AN⟩
      · rw [c1] at HTU
        clear c1
        generalize turnS ⟨ss, g, u, t, false⟩ l [] = Sc at *
        refine HTU.out.mono ?_
        rintro e w8 ⟨⟨oc, nc, cc, rfl, hRc⟩, hBc⟩
        have M8 := (M6.keep hBc).keep (below_alloc w8 (.cells #[.slice oc nc cc, .int .i64 Sc.g, .int .i64 Sc.u, .int .i64 Sc.t, .bool Sc.d] 26))
        clear M6 HTU hRc hBc v0 v1 v2 v3 v4
        obtain ⟨v0, v1, v2, v3, v4⟩ := M8.sto.cells
        dsimp only at v1 v2 v3 v4
        rw [HBd.out] at v0 v1 v2 v3 v4
        have d0 := M8.disk.cell
        unfold roomZ at c2
        rw [hkl.out, HLM.out] at c2
        by_cases hr : (k : Int) / 2 - 1 < (j : Int)
        · clear c2
          go_wp2_with fail
          go_ret
          exact ⟨rfl, M8.below⟩
        · have ht : 249 ≤ t := by rcases c2 with h | h <;> omega
          clear c2
          go_wp2_with fail
          go_ret
          exact ⟨rfl, M8.below⟩
      rw [AN.why, AN.sto, HLM.out] at HTU
      have hgt := AN.gt
      have hle := AN.le
      have hodd : ((h - g) % 2 == 0) = false := by rw [beq_eq_false_iff_ne]; exact AN.odd
      have hgt0 := HT.out.gt
      have hg1 := HT.out.g1
      have ht250 := HT.out.most
      have hlt := Lib.hid AN.len
      have HAN := Lib.hid AN
      have q1 : decide (h ≤ t) = false := decide_eq_false (by omega)
      have q2 : decide (t + 2 < h) = false := decide_eq_false (by omega)
      have q3 : t < h ∧ h ≤ t + 2 := ⟨hgt, hle⟩
      have q4 : g ≤ h := by omega
      clear AN
      refine HTU.out.mono ?_
      rintro e w8 ⟨⟨oc, nc, cc, rfl, hRc⟩, hBc⟩
      dsimp only at hRc ⊢
      have M8 := (M6.keep hBc).keep (below_alloc w8 (.cells #[.slice oc nc cc, .int .i64 h, .int .i64 (j : Int), .int .i64 h, .bool false] 26))
      have A8 := SVar.new (S := ⟨tt, h, (j : Int), h, false⟩) hRc
      have hnc : nc ≤ 1000 := by
        have h1 := hRc.len
        have h2 := hlt.out
        have h3 := hkl.out
        omega
      clear M6 HTU hRc hBc HLT v0 v1 v2 v3 v4
      obtain ⟨v0, v1, v2, v3, v4⟩ := M8.sto.cells
      dsimp only at v1 v2 v3 v4
      rw [HBd.out] at v0 v1 v2 v3 v4
      obtain ⟨a0, a1, a2, a3, a4⟩ := A8.cells
      dsimp only at a1 a2 a3 a4
      have d0 := M8.disk.cell
      go_wp2_with fail
      refine (alive_any _).mono ?_
      rintro e w9 ⟨rfl, hB9⟩
      have M9 := M8.keep hB9
      have A9 := A8.keep hB9
      clear M8 A8 hB9 v0 v1 v2 v3 v4 a0 a1 a2 a3 a4 d0
      obtain ⟨a0, a1, a2, a3, a4⟩ := A9.cells
      dsimp only at a1 a2 a3 a4
      have HAP := Lib.hid (append_any oc nc cc ⟨tt, h, (j : Int), h, false⟩ p (0, 0) w9 A9.rd hnc (by unfold maxLen; omega))
      have HLA := Lib.hid (append_len ⟨tt, h, (j : Int), h, false⟩ p (0, 0))
      clear hodd hgt hle q1 q2 q3 q4
      by_cases hfull : (j : Int) = (k : Int) / 2 - 1
      · have c1 := HAN.out.full hp9 (by unfold roomZ; rw [hkl.out, HLM.out]; exact hfull)
        rw [HLM.out] at c1
        rw [c1] at HAP
        have hf2 : ((j : Int) == (k : Int) / 2 - 1) = true := by rw [beq_iff_eq]; exact hfull
        clear c1 hfull HLA
        generalize appS ⟨tt, h, (j : Int), h, false⟩ p (0, 0) = Sd at *
        go_wp2_with fail
        refine HAP.out.mono ?_
        rintro e w10 ⟨⟨od, nd, cd, rfl, hRd⟩, hBd⟩
        have hBe := (M9.below.trans (hBd.mono M9.below.size)).alloc (Nat.le_trans M9.below.size hBd.size) (.cells #[.slice od nd cd, .int .i64 Sd.g, .int .i64 Sd.u, .int .i64 Sd.t, .bool Sd.d] 26)
        clear hRd hBd M9 A9 a0 a1 a2 a3 a4 HAP
        go_wp2_with fail
        go_ret
        exact ⟨rfl, hBe⟩
      have MO := HAN.out.more hp9 (by unfold roomZ; rw [hkl.out, HLM.out]; exact hfull)
      rw [HLM.out] at MO
      obtain ⟨c1, c2, c3⟩ := MO
      rw [c1] at HAP
      have hf2 : ((j : Int) == (k : Int) / 2 - 1) = false := by rw [beq_eq_false_iff_ne]; exact hfull
      clear c1 hfull
      generalize appS ⟨tt, h, (j : Int), h, false⟩ p (0, 0) = Sd at *
      go_wp2_with fail
      refine HAP.out.mono ?_
      rintro e w10 ⟨⟨od, nd, cd, rfl, hRd⟩, hBd⟩
      have M10 := (M9.keep hBd).keep (below_alloc w10 (.cells #[.slice od nd cd, .int .i64 Sd.g, .int .i64 Sd.u, .int .i64 Sd.t, .bool Sd.d] 26))
      have D10 := SVar.new (S := Sd) hRd
      have hnd : nd ≤ 1000 := by
        have h1 := hRd.len
        have h2 := HLA.out
        have h3 := hlt.out
        have h4 := hkl.out
        omega
      have HBO := Lib.hid (boot_any od nd cd Sd.ss _ D10.rd hnd)
      rw [c2, c3] at HBO
      clear c2 c3 M9 A9 hRd hBd a0 a1 a2 a3 a4 HAP
      have y0 := D10.row.at0
      generalize bootS Sd.ss = Se at *
      go_wp2_with fail
      refine HBO.out.mono ?_
      rintro e w11 ⟨⟨oe, ne, ce, om, nm, cm, rfl, hRe, hLe⟩, hBe⟩
      have M11 := (M10.keep hBe).keep (below_alloc w11 (.cells #[.slice oe ne ce, .int .i64 Se.g, .int .i64 Se.u, .int .i64 Se.t, .bool Se.d] 26))
      have L11 := hLe.below (below_alloc w11 (.cells #[.slice oe ne ce, .int .i64 Se.g, .int .i64 Se.u, .int .i64 Se.t, .bool Se.d] 26)) (Nat.le_refl _)
      clear M10 D10 hRe hLe hBe y0 HBO HLA
      obtain ⟨W, hW⟩ : ∃ W, W = w11.alloc (.cells #[.slice oe ne ce, .int .i64 Se.g, .int .i64 Se.u, .int .i64 Se.t, .bool Se.d] 26) := ⟨_, rfl⟩
      rw [← hW] at M11 L11
      have HW := Lib.hid hW
      clear hW
      obtain rfl : nm = j + 1 := by
        have := L11.len
        rw [List.length_append, HLM.out] at this
        simp at this
        omega
      have hBW := below_alloc W (.cells #[.string p] 9)
      have M12 := M11.keep hBW
      have L12 := L11.below hBW (Nat.le_refl _)
      have hnew : Hid (∀ (q : Nat) (u : Value), [Value.string p][q]? = some u → (W.alloc (.cells #[.string p] 9)).cell? ((⟨w11.heap.size + 1, 0, none⟩ : Addr).add q) = some u) := by
        have h1 := one_new W (.string p) 9
        have h2 : W.heap.size = w11.heap.size + 1 := by rw [HW.out]; simp
        rw [h2] at h1
        exact h1
      by_cases hroom : j < cl
      · obtain ⟨gg, cur, rfl, hgb, hgg, hcs, hct, hcl⟩ := own_room M12.own hroom
        have hcm : (W.alloc (.cells #[.string p] 9)).cell? ⟨gg, j, none⟩ = some cur[j] := by
          rw [cell_of_row _ gg j cur 9 (0, 0) hgg]
          exact Array.getElem?_eq_getElem (by omega)
        have hfm := frozen_of_row (W.alloc (.cells #[.string p] 9)) gg j cur 9 hgg
        have R1 := Lib.hid (room_rd p hgg hcs hroom HLM.out hct)
        have R2 := Lib.hid (room_other p hcm L12 (getD_snoc4 HLM.out p))
        have hBX : Below w.heap.size w ((W.alloc (.cells #[.string p] 9)).setCell ⟨gg, j, none⟩ (.string p)) := M12.below.setCell (by have := M12.low; show w.heap.size ≤ gg; omega) _
        have HTX := Lib.hid (texts_any om (j + 1) cm (l ++ [p]) _ (j + 1) cl (l ++ [p]) _ R2.out R1.out (by omega) (by omega))
        rw [same_self] at HTX
        have H12 := Lib.hid (own_cells4 M12.own)
        have hlc := Lib.hid hcl
        have hcm2 : Hid (((W.alloc (.cells #[.string p] 9)).cell? ⟨gg, j, none⟩).isSome = true) := by show _ = _; rw [hcm]; rfl
        have hfm2 := Lib.hid hfm
        clear M12 M11 hBW L12 L11 R1 R2 hgg hct hcm hfm hcs
        go_wp2_with (first
          | (at_builtin; rw [← HW.out]; refine wpList_room_g _ (by rfl) _ _ 22 rfl 9 i0 1 Try.underlying22 hi hz1 gg 0 j cl rfl ⟨w11.heap.size + 1, 0, none⟩ 1 1 [.string p] rfl rfl hnew.out (one_cell _) (by omega) (fun q hq => ?c1) ?c2)
          | fail)
        case c1 =>
          obtain rfl : q = 0 := by simpa using hq
          rw [show 0 + j * 1 + 0 = j by omega]
          exact ⟨hcm2.out, hfm2.out⟩
        · clear hcm2 hfm2 H12
          change Calls _ _ _ ((W.alloc (.cells #[.string p] 9)).setCell ⟨gg, j, none⟩ (.string p)) _
          generalize (W.alloc (.cells #[.string p] 9)).setCell ⟨gg, j, none⟩ (.string p) = WX at *
          refine HTX.out.mono ?_
          rintro e w13 ⟨rfl, hBl⟩
          go_wp2_with fail
          go_ret
          exact ⟨rfl, hBX.trans (hBl.mono hBX.size)⟩
      · have H12 := Lib.hid (own_cells4 M12.own)
        have H13 := Lib.hid (own_nil4 M12.own)
        have hBX := M12.below
        have hlc : Hid ((strCells l).length = j) := by show _ = _; rw [strCells_length]; exact HLM.out
        clear M12 M11 hBW L11
        go_wp2_with (first
          | (at_builtin; rw [← HW.out]; refine wpList_grows_g _ (by rfl) _ _ 22 rfl 9 i0 (.string ⟨#[]⟩) 1 16 Try.underlying22 hi hz0 hz1 hz2 rfl (by decide) ol j cl (strCells l) rfl H13.out (by rw [hlc.out, Nat.mul_one]) H12.out ⟨w11.heap.size + 1, 0, none⟩ 1 1 [.string p] rfl rfl hnew.out (one_cell _) (by omega) (by unfold maxLen; omega) (by omega) (fun v' w13 hown' hgrow => ?_))
          | fail)
        · have hown2 : w13.ownsRow (W.alloc (.cells #[.string p] 9)).heap.size 9 1 v' (j + 1) (strCells (l ++ [p])) := by rw [strCells_snoc]; exact hown'
          obtain ⟨oo, co, rfl, hRo, _⟩ := Rd.of_own (by rw [List.length_append, HLM.out]; rfl) hown2
          have L13 := rd_grown L12 hgrow
          have hBY : Below w.heap.size w w13 := hBX.grown hgrow hBX.size (fun g hg => by cases hg)
          have HTX := Lib.hid (texts_any om (j + 1) cm (l ++ [p]) _ (j + 1) co (l ++ [p]) _ L13 hRo (by omega) (by omega))
          rw [same_self] at HTX
          clear hown' hown2 hgrow hRo L13 L12 H12 H13 hBX
          refine HTX.out.mono ?_
          rintro e w14 ⟨rfl, hBl⟩
          go_wp2_with fail
          go_ret
          exact ⟨rfl, hBY.trans (hBl.mono hBY.size)⟩
end Go.Proofs.Ytmjbhmmcpjhmcaa.storeTurns
