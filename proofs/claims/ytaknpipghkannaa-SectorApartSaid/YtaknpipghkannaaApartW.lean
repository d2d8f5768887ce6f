/-
  The walk of SectorApart: a write, torn or not, changes its sector alone.
-/
import Derived.Test.YtaknpipghkannaaFacts
namespace Go.Proofs.Ytaknpipghkannaa.sectorApart
open Go.RowKit
set_option linter.unusedVariables false

theorem tmod_bd (a : Int) : -129 < a.tmod 129 ∧ a.tmod 129 < 129 := by
  have h1 := Int.tmod_lt_of_pos a (b := 129) (by omega)
  have h2 := Int.lt_tmod_of_pos a (b := 129) (by omega)
  omega
set_option maxHeartbeats 3200000 in
set_option maxRecDepth 100000 in
theorem walk (oa : Option Addr) (n cap : Nat) (ss0 : List ByteArray) (a other : Int) (text : ByteArray) (k0 m0 : Int) (w : World) (hA : Arg w oa n cap ss0) (htx : text.size ≤ maxLen) :
    Calls Try.prog 4 #[.agg #[.slice oa n cap], .int .i64 a, .int .i64 other, .string text, .int .i64 k0, .int .i64 m0] w fun e w' => e = .returned (.bool true) ∧ Below w.heap.size w w' := by
  obtain ⟨hk1, hk2⟩ := tmod_bd k0
  obtain ⟨hm1, hm2⟩ := tmod_bd m0
  have hA1 : Arg (w.alloc (.cells #[.slice oa n cap] 24)) oa n cap ss0 := ⟨hA.len, hA.room, hA.most, hA.each, fun i hi => by
    obtain ⟨b, off, h1, h2⟩ := hA.cell i hi
    exact ⟨b, off, h1, keepC (below_alloc w _) h2⟩⟩
  go_enter Try.func4, Try.ntmps4
  go_wp2_with fail
  refine (few_any _ _ _ _ _ hA1).mono ?_
  rintro e w1 ⟨⟨ob, n1, cap1, rfl, hR⟩, hB1⟩
  go_wp2_with fail
  refine (whole_any _ _ htx).mono ?_
  rintro e w1' ⟨rfl, rfl⟩
  have hb1 : w1.heap[w.heap.size]? = some (.cells #[.slice oa n cap] 24 (0, 0)) := (hB1.block w.heap.size (by simp)).trans (heap_alloc_new w _)
  have hcb := cell_of_one hb1
  have hfb := free_of_one hb1
  have V6 : Var (w1.setCell ⟨w.heap.size, 0, none⟩ (.slice ob n1 cap1)) w.heap.size ob n1 cap1 (fewL ss0) := ⟨one_setCell hb1, hR.setDisk hcb _⟩
  have hBB : Below w.heap.size w (w1.setCell ⟨w.heap.size, 0, none⟩ (.slice ob n1 cap1)) := ((below_alloc w _).trans (hB1.mono (by simp))).setCell (Nat.le_refl _) _
  have hwh := Lib.hid (whole_size text)
  have hn1 : n1 ≤ 132 := by rw [← hR.len]; exact few_size ss0
  generalize wholeS text = t at *
  generalize fewL ss0 = ss at *
  clear hA1 hA hb1 hB1 hR
  have hp0 : 0 ≤ k0.tmod 129 % 129 := Int.emod_nonneg _ (by omega)
  have hp1 : k0.tmod 129 % 129 < 129 := Int.emod_lt_of_pos _ (by omega)
  have hq0 : 0 ≤ m0.tmod 129 % 129 := Int.emod_nonneg _ (by omega)
  have hq1 : m0.tmod 129 % 129 < 129 := Int.emod_lt_of_pos _ (by omega)
  obtain ⟨p, hp⟩ := Int.eq_ofNat_of_zero_le hp0
  obtain ⟨q, hq⟩ := Int.eq_ofNat_of_zero_le hq0
  rw [hp] at hp1
  rw [hq] at hq1
  have HP := Lib.hid hp
  have HQ := Lib.hid hq
  clear hp0 hq0 hp hq
  have q6 := V6.cell
  have hle : w.heap.size ≤ (w1.setCell ⟨w.heap.size, 0, none⟩ (.slice ob n1 cap1)).heap.size := hBB.size
  go_wp2_with fail
  · clear hcb hfb hk1 hk2 hm1 hm2
    generalize w1.setCell ⟨w.heap.size, 0, none⟩ (.slice ob n1 cap1) = W at *
    have HE : Hid (q ≤ p ∧ p ≤ 128) := by
      have e1 := HP.out
      have e2 := HQ.out
      exact And.intro (by omega) (by omega)
    by_cases hz : findE ss a = 0
    · obtain ⟨i, rfl, G⟩ := good_of hz hwh.out
      clear hz
      have hK : q ≤ 128 := by have := HE.out; omega
      have hM : p ≤ 128 := HE.out.2
      have GE1 : Hid (tearE ss (i : Int) t (m0.tmod 129 % 129) = 0) := by show _ = _; rw [HQ.out]; exact G.tearE (k := q) hK
      have GE2 : Hid (tearE (tearL ss (i : Int) t (m0.tmod 129 % 129)) (i : Int) t (k0.tmod 129 % 129) = 0) := by show _ = _; rw [HQ.out, HP.out]; exact (G.next (k := q) hK).tearE (k := p) hM
      have GE3 : Hid (tearE ss (i : Int) t (k0.tmod 129 % 129) = 0) := by show _ = _; rw [HP.out]; exact G.tearE (k := p) hM
      have GE4 : Hid (tearE ss (i : Int) t 0 = 0) := G.tearE (k := 0) (by omega)
      have GE5 : Hid (tearE ss (i : Int) t 128 = 0) := G.tearE (k := 128) (by omega)
      have GR := Lib.hid G.read
      have GF : Hid (findE (tearL ss (i : Int) t 128) (i : Int) = 0) := (G.next (k := 128) (by omega)).find
      have S1 : Hid (sameB (tearL (tearL ss (i : Int) t (m0.tmod 129 % 129)) (i : Int) t (k0.tmod 129 % 129)) (tearL ss (i : Int) t (k0.tmod 129 % 129)) = true) := by
        show _ = _
        rw [HQ.out, HP.out, G.twice HE.out.1 hM]
        unfold sameB
        simp
      have S2 : Hid (sameB (tearL ss (i : Int) t 0) ss = true) := by
        show _ = _
        rw [G.none]
        unfold sameB
        simp
      have S3 : Hid (sameB (tearL ss (i : Int) t 128) (tearL ss (i : Int) t 128) = true) := by
        show _ = _
        unfold sameB
        simp
      have F1 : Hid (∀ b, findE (tearL ss (i : Int) t (m0.tmod 129 % 129)) b = findE ss b) := by
        intro b
        rw [HQ.out]
        exact G.findNext (k := q) hK b
      have F2 : Hid (∀ b, b ≠ (i : Int) → readS (tearL ss (i : Int) t (m0.tmod 129 % 129)) b = readS ss b) := by
        intro b hb
        rw [HQ.out]
        exact G.others (k := q) hK b hb
      have HG := Lib.hid G
      clear hK hM G
      refine (tear_any _ _ _ _ _ _ _ _ V6.rd (by omega) (by rw [hwh.out]; unfold maxLen; omega)).mono ?_
      rintro e w13 ⟨⟨o13, n13, c13, rfl, hT⟩, hB⟩
      rw [GE1.out]
      have hn13 : n13 ≤ 132 := by
        have h1 := hT.len
        have h2 := tear_length ss i t (m0.tmod 129 % 129)
        have h3 := V6.rd.len
        omega
      replace hBB := below_next hBB hle hB (.cells #[.slice o13 n13 c13] 24)
      replace V6 := V6.next hB (.cells #[.slice o13 n13 c13] 24)
      have V13 := Var.new hT
      clear hle hB hT q6
      have hle : w.heap.size ≤ (w13.alloc (.cells #[.slice o13 n13 c13] 24)).heap.size := hBB.size
      have q6 := V6.cell
      have q13 := V13.cell
      go_wp2_with fail
      generalize w13.alloc (.cells #[.slice o13 n13 c13] 24) = W13 at *
      generalize w13.heap.size = B13 at *
      refine (tear_any _ _ _ _ _ _ _ _ V13.rd (by omega) (by rw [hwh.out]; unfold maxLen; omega)).mono ?_
      rintro e w15 ⟨⟨o15, n15, c15, rfl, hT⟩, hB⟩
      rw [GE2.out]
      have hn15 : n15 ≤ 132 := by
        have h1 := hT.len
        have h2 := Nat.le_trans (tear_length (tearL ss i t (m0.tmod 129 % 129)) i t (k0.tmod 129 % 129)) (tear_length ss i t (m0.tmod 129 % 129))
        have h3 := V6.rd.len
        omega
      replace hBB := below_next hBB hle hB (.cells #[.slice o15 n15 c15] 24)
      replace V6 := V6.next hB (.cells #[.slice o15 n15 c15] 24)
      replace V13 := V13.next hB (.cells #[.slice o15 n15 c15] 24)
      have V15 := Var.new hT
      clear hle hB hT q6 q13
      have hle : w.heap.size ≤ (w15.alloc (.cells #[.slice o15 n15 c15] 24)).heap.size := hBB.size
      have q6 := V6.cell
      have q13 := V13.cell
      have q15 := V15.cell
      go_wp2_with fail
      generalize w15.alloc (.cells #[.slice o15 n15 c15] 24) = W15 at *
      generalize w15.heap.size = B15 at *
      refine (tear_any _ _ _ _ _ _ _ _ V6.rd (by omega) (by rw [hwh.out]; unfold maxLen; omega)).mono ?_
      rintro e w17 ⟨⟨o17, n17, c17, rfl, hT⟩, hB⟩
      rw [GE3.out]
      have hn17 : n17 ≤ 132 := by
        have h1 := hT.len
        have h2 := tear_length ss i t (k0.tmod 129 % 129)
        have h3 := V6.rd.len
        omega
      replace hBB := below_next hBB hle hB (.cells #[.slice o17 n17 c17] 24)
      replace V6 := V6.next hB (.cells #[.slice o17 n17 c17] 24)
      replace V13 := V13.next hB (.cells #[.slice o17 n17 c17] 24)
      replace V15 := V15.next hB (.cells #[.slice o17 n17 c17] 24)
      have V17 := Var.new hT
      clear hle hB hT q6 q13 q15
      have hle : w.heap.size ≤ (w17.alloc (.cells #[.slice o17 n17 c17] 24)).heap.size := hBB.size
      have q6 := V6.cell
      have q13 := V13.cell
      have q15 := V15.cell
      have q17 := V17.cell
      go_wp2_with fail
      generalize w17.alloc (.cells #[.slice o17 n17 c17] 24) = W17 at *
      generalize w17.heap.size = B17 at *
      refine (tear_any _ _ _ _ _ _ _ _ V6.rd (by omega) (by rw [hwh.out]; unfold maxLen; omega)).mono ?_
      rintro e w19 ⟨⟨o19, n19, c19, rfl, hT⟩, hB⟩
      rw [GE4.out]
      have hn19 : n19 ≤ 132 := by
        have h1 := hT.len
        have h2 := tear_length ss i t 0
        have h3 := V6.rd.len
        omega
      replace hBB := below_next hBB hle hB (.cells #[.slice o19 n19 c19] 24)
      replace V6 := V6.next hB (.cells #[.slice o19 n19 c19] 24)
      replace V13 := V13.next hB (.cells #[.slice o19 n19 c19] 24)
      replace V15 := V15.next hB (.cells #[.slice o19 n19 c19] 24)
      replace V17 := V17.next hB (.cells #[.slice o19 n19 c19] 24)
      have V19 := Var.new hT
      clear hle hB hT q6 q13 q15 q17
      have hle : w.heap.size ≤ (w19.alloc (.cells #[.slice o19 n19 c19] 24)).heap.size := hBB.size
      have q6 := V6.cell
      have q13 := V13.cell
      have q15 := V15.cell
      have q17 := V17.cell
      have q19 := V19.cell
      go_wp2_with fail
      generalize w19.alloc (.cells #[.slice o19 n19 c19] 24) = W19 at *
      generalize w19.heap.size = B19 at *
      refine (tear_any _ _ _ _ _ _ _ _ V6.rd (by omega) (by rw [hwh.out]; unfold maxLen; omega)).mono ?_
      rintro e w21 ⟨⟨o21, n21, c21, rfl, hT⟩, hB⟩
      rw [GE5.out]
      have hn21 : n21 ≤ 132 := by
        have h1 := hT.len
        have h2 := tear_length ss i t 128
        have h3 := V6.rd.len
        omega
      replace hBB := below_next hBB hle hB (.cells #[.slice o21 n21 c21] 24)
      replace V6 := V6.next hB (.cells #[.slice o21 n21 c21] 24)
      replace V13 := V13.next hB (.cells #[.slice o21 n21 c21] 24)
      replace V15 := V15.next hB (.cells #[.slice o21 n21 c21] 24)
      replace V17 := V17.next hB (.cells #[.slice o21 n21 c21] 24)
      replace V19 := V19.next hB (.cells #[.slice o21 n21 c21] 24)
      have V21 := Var.new hT
      clear hle hB hT q6 q13 q15 q17 q19
      have hle : w.heap.size ≤ (w21.alloc (.cells #[.slice o21 n21 c21] 24)).heap.size := hBB.size
      have q6 := V6.cell
      have q13 := V13.cell
      have q15 := V15.cell
      have q17 := V17.cell
      have q19 := V19.cell
      have q21 := V21.cell
      go_wp2_with fail
      generalize w21.alloc (.cells #[.slice o21 n21 c21] 24) = W21 at *
      generalize w21.heap.size = B21 at *
      refine (write_any _ _ _ _ _ _ _ V6.rd (by omega) (by rw [hwh.out]; unfold maxLen; omega)).mono ?_
      rintro e w23 ⟨⟨o23, n23, c23, rfl, hT⟩, hB⟩
      rw [GE5.out]
      have hn23 : n23 ≤ 132 := by
        have h1 := hT.len
        have h2 := tear_length ss i t 128
        have h3 := V6.rd.len
        omega
      replace hBB := below_next hBB hle hB (.cells #[.slice o23 n23 c23] 24)
      replace V6 := V6.next hB (.cells #[.slice o23 n23 c23] 24)
      replace V13 := V13.next hB (.cells #[.slice o23 n23 c23] 24)
      replace V15 := V15.next hB (.cells #[.slice o23 n23 c23] 24)
      replace V17 := V17.next hB (.cells #[.slice o23 n23 c23] 24)
      replace V19 := V19.next hB (.cells #[.slice o23 n23 c23] 24)
      replace V21 := V21.next hB (.cells #[.slice o23 n23 c23] 24)
      have V23 := Var.new hT
      clear hle hB hT q6 q13 q15 q17 q19 q21
      have hle : w.heap.size ≤ (w23.alloc (.cells #[.slice o23 n23 c23] 24)).heap.size := hBB.size
      have q6 := V6.cell
      have q13 := V13.cell
      have q15 := V15.cell
      have q17 := V17.cell
      have q19 := V19.cell
      have q21 := V21.cell
      have q23 := V23.cell
      go_wp2_with fail
      generalize w23.alloc (.cells #[.slice o23 n23 c23] 24) = W23 at *
      generalize w23.heap.size = B23 at *
      refine (read_any _ _ _ _ _ _ V23.rd (by omega)).mono ?_
      rintro e wa ⟨rfl, hB⟩
      rw [GF.out, GR.out]
      replace hBB := hBB.trans (hB.mono hle)
      replace V6 := V6.below hB
      replace V13 := V13.below hB
      replace V15 := V15.below hB
      replace V17 := V17.below hB
      replace V19 := V19.below hB
      replace V21 := V21.below hB
      replace V23 := V23.below hB
      clear hle hB q6 q13 q15 q17 q19 q21 q23
      have hle : w.heap.size ≤ wa.heap.size := hBB.size
      have q6 := V6.cell
      have q13 := V13.cell
      have q15 := V15.cell
      have q17 := V17.cell
      have q19 := V19.cell
      have q21 := V21.cell
      have q23 := V23.cell
      go_wp2_with fail
      refine (same_any _ _ _ _ _ _ _ _ _ V15.rd V17.rd (by omega) (by omega)).mono ?_
      rintro e wb ⟨rfl, hB⟩
      rw [S1.out]
      replace hBB := hBB.trans (hB.mono hle)
      replace V6 := V6.below hB
      replace V13 := V13.below hB
      replace V15 := V15.below hB
      replace V17 := V17.below hB
      replace V19 := V19.below hB
      replace V21 := V21.below hB
      replace V23 := V23.below hB
      clear hle hB q6 q13 q15 q17 q19 q21 q23
      have hle : w.heap.size ≤ wb.heap.size := hBB.size
      have q6 := V6.cell
      have q13 := V13.cell
      have q15 := V15.cell
      have q17 := V17.cell
      have q19 := V19.cell
      have q21 := V21.cell
      have q23 := V23.cell
      go_wp2_with fail
      refine (same_any _ _ _ _ _ _ _ _ _ V19.rd V6.rd (by omega) (by omega)).mono ?_
      rintro e wc ⟨rfl, hB⟩
      rw [S2.out]
      replace hBB := hBB.trans (hB.mono hle)
      replace V6 := V6.below hB
      replace V13 := V13.below hB
      replace V15 := V15.below hB
      replace V17 := V17.below hB
      replace V19 := V19.below hB
      replace V21 := V21.below hB
      replace V23 := V23.below hB
      clear hle hB q6 q13 q15 q17 q19 q21 q23
      have hle : w.heap.size ≤ wc.heap.size := hBB.size
      have q6 := V6.cell
      have q13 := V13.cell
      have q15 := V15.cell
      have q17 := V17.cell
      have q19 := V19.cell
      have q21 := V21.cell
      have q23 := V23.cell
      go_wp2_with fail
      refine (same_any _ _ _ _ _ _ _ _ _ V21.rd V23.rd (by omega) (by omega)).mono ?_
      rintro e wd ⟨rfl, hB⟩
      rw [S3.out]
      replace hBB := hBB.trans (hB.mono hle)
      replace V6 := V6.below hB
      replace V13 := V13.below hB
      replace V15 := V15.below hB
      replace V17 := V17.below hB
      replace V19 := V19.below hB
      replace V21 := V21.below hB
      replace V23 := V23.below hB
      clear hle hB q6 q13 q15 q17 q19 q21 q23
      have hle : w.heap.size ≤ wd.heap.size := hBB.size
      have q6 := V6.cell
      have q13 := V13.cell
      have q15 := V15.cell
      have q17 := V17.cell
      have q19 := V19.cell
      have q21 := V21.cell
      have q23 := V23.cell
      go_wp2_with fail
      refine (alive_any _).mono ?_
      rintro e we ⟨rfl, hB⟩
      replace hBB := hBB.trans (hB.mono hle)
      replace V6 := V6.below hB
      replace V13 := V13.below hB
      replace V15 := V15.below hB
      replace V17 := V17.below hB
      replace V19 := V19.below hB
      replace V21 := V21.below hB
      replace V23 := V23.below hB
      clear hle hB q6 q13 q15 q17 q19 q21 q23
      have hle : w.heap.size ≤ we.heap.size := hBB.size
      have q6 := V6.cell
      have q13 := V13.cell
      have q15 := V15.cell
      have q17 := V17.cell
      have q19 := V19.cell
      have q21 := V21.cell
      have q23 := V23.cell
      go_wp2_with fail
      refine (read_any _ _ _ _ _ _ V6.rd (by omega)).mono ?_
      rintro e wf ⟨rfl, hB⟩
      replace hBB := hBB.trans (hB.mono hle)
      replace V6 := V6.below hB
      replace V13 := V13.below hB
      clear hle hB q6 q13
      have hle : w.heap.size ≤ wf.heap.size := hBB.size
      have q6 := V6.cell
      have q13 := V13.cell
      go_wp2_with fail
      refine (read_any _ _ _ _ _ _ V13.rd (by omega)).mono ?_
      rintro e wg ⟨rfl, hB⟩
      rw [F1.out other]
      replace hBB := hBB.trans (hB.mono hle)
      clear q6 q13
      by_cases ho : other = (i : Int)
      · have ho' : (other == (i : Int)) = true := by simpa using ho
        clear ho
        generalize findE ss other = E at *
        go_wp2_with fail
        go_ret
        exact ⟨rfl, hBB⟩
      · rw [F2.out other ho]
        have ho' : (other == (i : Int)) = false := by simpa using ho
        clear ho
        generalize findE ss other = E at *
        generalize readS ss other = x at *
        go_wp2_with fail
        go_ret
        exact ⟨rfl, hBB⟩
    · have GE := Lib.hid (tearE_bad (t := t) (k := (m0.tmod 129 % 129)) hz)
      have HLL : Hid (tearL ss a t (m0.tmod 129 % 129) = []) := tearL_bad (by rw [GE.out]; exact hz)
      have hz' : (findE ss a == 0) = false := by simpa using hz
      clear hz
      refine (tear_any _ _ _ _ _ _ _ _ V6.rd (by omega) (by rw [hwh.out]; unfold maxLen; omega)).mono ?_
      rintro e w2 ⟨⟨o13, n13, c13, rfl, hT⟩, hB2⟩
      rw [GE.out]
      obtain rfl : 0 = n13 := by rw [← hT.len, HLL.out]; rfl
      replace hBB := below_next hBB hle hB2 (.cells #[.slice o13 0 c13] 24)
      have V13 := Var.new hT
      have hle : w.heap.size ≤ (w2.alloc (.cells #[.slice o13 0 c13] 24)).heap.size := hBB.size
      clear q6 hB2 hT V6
      generalize findE ss a = E at *
      go_wp2_with fail
      refine (alive_any _).mono ?_
      rintro e w3 ⟨rfl, hB3⟩
      have q13 := (V13.below hB3).cell
      go_wp2_with fail
      go_ret
      exact ⟨rfl, hBB.trans (hB3.mono hle)⟩
  · clear hcb hfb hk1 hk2 hm1 hm2
    generalize w1.setCell ⟨w.heap.size, 0, none⟩ (.slice ob n1 cap1) = W at *
    have HE : Hid (p ≤ q ∧ q ≤ 128) := by
      have e1 := HP.out
      have e2 := HQ.out
      exact And.intro (by omega) (by omega)
    by_cases hz : findE ss a = 0
    · obtain ⟨i, rfl, G⟩ := good_of hz hwh.out
      clear hz
      have hK : p ≤ 128 := by have := HE.out; omega
      have hM : q ≤ 128 := HE.out.2
      have GE1 : Hid (tearE ss (i : Int) t (k0.tmod 129 % 129) = 0) := by show _ = _; rw [HP.out]; exact G.tearE (k := p) hK
      have GE2 : Hid (tearE (tearL ss (i : Int) t (k0.tmod 129 % 129)) (i : Int) t (m0.tmod 129 % 129) = 0) := by show _ = _; rw [HP.out, HQ.out]; exact (G.next (k := p) hK).tearE (k := q) hM
      have GE3 : Hid (tearE ss (i : Int) t (m0.tmod 129 % 129) = 0) := by show _ = _; rw [HQ.out]; exact G.tearE (k := q) hM
      have GE4 : Hid (tearE ss (i : Int) t 0 = 0) := G.tearE (k := 0) (by omega)
      have GE5 : Hid (tearE ss (i : Int) t 128 = 0) := G.tearE (k := 128) (by omega)
      have GR := Lib.hid G.read
      have GF : Hid (findE (tearL ss (i : Int) t 128) (i : Int) = 0) := (G.next (k := 128) (by omega)).find
      have S1 : Hid (sameB (tearL (tearL ss (i : Int) t (k0.tmod 129 % 129)) (i : Int) t (m0.tmod 129 % 129)) (tearL ss (i : Int) t (m0.tmod 129 % 129)) = true) := by
        show _ = _
        rw [HP.out, HQ.out, G.twice HE.out.1 hM]
        unfold sameB
        simp
      have S2 : Hid (sameB (tearL ss (i : Int) t 0) ss = true) := by
        show _ = _
        rw [G.none]
        unfold sameB
        simp
      have S3 : Hid (sameB (tearL ss (i : Int) t 128) (tearL ss (i : Int) t 128) = true) := by
        show _ = _
        unfold sameB
        simp
      have F1 : Hid (∀ b, findE (tearL ss (i : Int) t (k0.tmod 129 % 129)) b = findE ss b) := by
        intro b
        rw [HP.out]
        exact G.findNext (k := p) hK b
      have F2 : Hid (∀ b, b ≠ (i : Int) → readS (tearL ss (i : Int) t (k0.tmod 129 % 129)) b = readS ss b) := by
        intro b hb
        rw [HP.out]
        exact G.others (k := p) hK b hb
      have HG := Lib.hid G
      clear hK hM G
      refine (tear_any _ _ _ _ _ _ _ _ V6.rd (by omega) (by rw [hwh.out]; unfold maxLen; omega)).mono ?_
      rintro e w13 ⟨⟨o13, n13, c13, rfl, hT⟩, hB⟩
      rw [GE1.out]
      have hn13 : n13 ≤ 132 := by
        have h1 := hT.len
        have h2 := tear_length ss i t (k0.tmod 129 % 129)
        have h3 := V6.rd.len
        omega
      replace hBB := below_next hBB hle hB (.cells #[.slice o13 n13 c13] 24)
      replace V6 := V6.next hB (.cells #[.slice o13 n13 c13] 24)
      have V13 := Var.new hT
      clear hle hB hT q6
      have hle : w.heap.size ≤ (w13.alloc (.cells #[.slice o13 n13 c13] 24)).heap.size := hBB.size
      have q6 := V6.cell
      have q13 := V13.cell
      go_wp2_with fail
      generalize w13.alloc (.cells #[.slice o13 n13 c13] 24) = W13 at *
      generalize w13.heap.size = B13 at *
      refine (tear_any _ _ _ _ _ _ _ _ V13.rd (by omega) (by rw [hwh.out]; unfold maxLen; omega)).mono ?_
      rintro e w15 ⟨⟨o15, n15, c15, rfl, hT⟩, hB⟩
      rw [GE2.out]
      have hn15 : n15 ≤ 132 := by
        have h1 := hT.len
        have h2 := Nat.le_trans (tear_length (tearL ss i t (k0.tmod 129 % 129)) i t (m0.tmod 129 % 129)) (tear_length ss i t (k0.tmod 129 % 129))
        have h3 := V6.rd.len
        omega
      replace hBB := below_next hBB hle hB (.cells #[.slice o15 n15 c15] 24)
      replace V6 := V6.next hB (.cells #[.slice o15 n15 c15] 24)
      replace V13 := V13.next hB (.cells #[.slice o15 n15 c15] 24)
      have V15 := Var.new hT
      clear hle hB hT q6 q13
      have hle : w.heap.size ≤ (w15.alloc (.cells #[.slice o15 n15 c15] 24)).heap.size := hBB.size
      have q6 := V6.cell
      have q13 := V13.cell
      have q15 := V15.cell
      go_wp2_with fail
      generalize w15.alloc (.cells #[.slice o15 n15 c15] 24) = W15 at *
      generalize w15.heap.size = B15 at *
      refine (tear_any _ _ _ _ _ _ _ _ V6.rd (by omega) (by rw [hwh.out]; unfold maxLen; omega)).mono ?_
      rintro e w17 ⟨⟨o17, n17, c17, rfl, hT⟩, hB⟩
      rw [GE3.out]
      have hn17 : n17 ≤ 132 := by
        have h1 := hT.len
        have h2 := tear_length ss i t (m0.tmod 129 % 129)
        have h3 := V6.rd.len
        omega
      replace hBB := below_next hBB hle hB (.cells #[.slice o17 n17 c17] 24)
      replace V6 := V6.next hB (.cells #[.slice o17 n17 c17] 24)
      replace V13 := V13.next hB (.cells #[.slice o17 n17 c17] 24)
      replace V15 := V15.next hB (.cells #[.slice o17 n17 c17] 24)
      have V17 := Var.new hT
      clear hle hB hT q6 q13 q15
      have hle : w.heap.size ≤ (w17.alloc (.cells #[.slice o17 n17 c17] 24)).heap.size := hBB.size
      have q6 := V6.cell
      have q13 := V13.cell
      have q15 := V15.cell
      have q17 := V17.cell
      go_wp2_with fail
      generalize w17.alloc (.cells #[.slice o17 n17 c17] 24) = W17 at *
      generalize w17.heap.size = B17 at *
      refine (tear_any _ _ _ _ _ _ _ _ V6.rd (by omega) (by rw [hwh.out]; unfold maxLen; omega)).mono ?_
      rintro e w19 ⟨⟨o19, n19, c19, rfl, hT⟩, hB⟩
      rw [GE4.out]
      have hn19 : n19 ≤ 132 := by
        have h1 := hT.len
        have h2 := tear_length ss i t 0
        have h3 := V6.rd.len
        omega
      replace hBB := below_next hBB hle hB (.cells #[.slice o19 n19 c19] 24)
      replace V6 := V6.next hB (.cells #[.slice o19 n19 c19] 24)
      replace V13 := V13.next hB (.cells #[.slice o19 n19 c19] 24)
      replace V15 := V15.next hB (.cells #[.slice o19 n19 c19] 24)
      replace V17 := V17.next hB (.cells #[.slice o19 n19 c19] 24)
      have V19 := Var.new hT
      clear hle hB hT q6 q13 q15 q17
      have hle : w.heap.size ≤ (w19.alloc (.cells #[.slice o19 n19 c19] 24)).heap.size := hBB.size
      have q6 := V6.cell
      have q13 := V13.cell
      have q15 := V15.cell
      have q17 := V17.cell
      have q19 := V19.cell
      go_wp2_with fail
      generalize w19.alloc (.cells #[.slice o19 n19 c19] 24) = W19 at *
      generalize w19.heap.size = B19 at *
      refine (tear_any _ _ _ _ _ _ _ _ V6.rd (by omega) (by rw [hwh.out]; unfold maxLen; omega)).mono ?_
      rintro e w21 ⟨⟨o21, n21, c21, rfl, hT⟩, hB⟩
      rw [GE5.out]
      have hn21 : n21 ≤ 132 := by
        have h1 := hT.len
        have h2 := tear_length ss i t 128
        have h3 := V6.rd.len
        omega
      replace hBB := below_next hBB hle hB (.cells #[.slice o21 n21 c21] 24)
      replace V6 := V6.next hB (.cells #[.slice o21 n21 c21] 24)
      replace V13 := V13.next hB (.cells #[.slice o21 n21 c21] 24)
      replace V15 := V15.next hB (.cells #[.slice o21 n21 c21] 24)
      replace V17 := V17.next hB (.cells #[.slice o21 n21 c21] 24)
      replace V19 := V19.next hB (.cells #[.slice o21 n21 c21] 24)
      have V21 := Var.new hT
      clear hle hB hT q6 q13 q15 q17 q19
      have hle : w.heap.size ≤ (w21.alloc (.cells #[.slice o21 n21 c21] 24)).heap.size := hBB.size
      have q6 := V6.cell
      have q13 := V13.cell
      have q15 := V15.cell
      have q17 := V17.cell
      have q19 := V19.cell
      have q21 := V21.cell
      go_wp2_with fail
      generalize w21.alloc (.cells #[.slice o21 n21 c21] 24) = W21 at *
      generalize w21.heap.size = B21 at *
      refine (write_any _ _ _ _ _ _ _ V6.rd (by omega) (by rw [hwh.out]; unfold maxLen; omega)).mono ?_
      rintro e w23 ⟨⟨o23, n23, c23, rfl, hT⟩, hB⟩
      rw [GE5.out]
      have hn23 : n23 ≤ 132 := by
        have h1 := hT.len
        have h2 := tear_length ss i t 128
        have h3 := V6.rd.len
        omega
      replace hBB := below_next hBB hle hB (.cells #[.slice o23 n23 c23] 24)
      replace V6 := V6.next hB (.cells #[.slice o23 n23 c23] 24)
      replace V13 := V13.next hB (.cells #[.slice o23 n23 c23] 24)
      replace V15 := V15.next hB (.cells #[.slice o23 n23 c23] 24)
      replace V17 := V17.next hB (.cells #[.slice o23 n23 c23] 24)
      replace V19 := V19.next hB (.cells #[.slice o23 n23 c23] 24)
      replace V21 := V21.next hB (.cells #[.slice o23 n23 c23] 24)
      have V23 := Var.new hT
      clear hle hB hT q6 q13 q15 q17 q19 q21
      have hle : w.heap.size ≤ (w23.alloc (.cells #[.slice o23 n23 c23] 24)).heap.size := hBB.size
      have q6 := V6.cell
      have q13 := V13.cell
      have q15 := V15.cell
      have q17 := V17.cell
      have q19 := V19.cell
      have q21 := V21.cell
      have q23 := V23.cell
      go_wp2_with fail
      generalize w23.alloc (.cells #[.slice o23 n23 c23] 24) = W23 at *
      generalize w23.heap.size = B23 at *
      refine (read_any _ _ _ _ _ _ V23.rd (by omega)).mono ?_
      rintro e wa ⟨rfl, hB⟩
      rw [GF.out, GR.out]
      replace hBB := hBB.trans (hB.mono hle)
      replace V6 := V6.below hB
      replace V13 := V13.below hB
      replace V15 := V15.below hB
      replace V17 := V17.below hB
      replace V19 := V19.below hB
      replace V21 := V21.below hB
      replace V23 := V23.below hB
      clear hle hB q6 q13 q15 q17 q19 q21 q23
      have hle : w.heap.size ≤ wa.heap.size := hBB.size
      have q6 := V6.cell
      have q13 := V13.cell
      have q15 := V15.cell
      have q17 := V17.cell
      have q19 := V19.cell
      have q21 := V21.cell
      have q23 := V23.cell
      go_wp2_with fail
      refine (same_any _ _ _ _ _ _ _ _ _ V15.rd V17.rd (by omega) (by omega)).mono ?_
      rintro e wb ⟨rfl, hB⟩
      rw [S1.out]
      replace hBB := hBB.trans (hB.mono hle)
      replace V6 := V6.below hB
      replace V13 := V13.below hB
      replace V15 := V15.below hB
      replace V17 := V17.below hB
      replace V19 := V19.below hB
      replace V21 := V21.below hB
      replace V23 := V23.below hB
      clear hle hB q6 q13 q15 q17 q19 q21 q23
      have hle : w.heap.size ≤ wb.heap.size := hBB.size
      have q6 := V6.cell
      have q13 := V13.cell
      have q15 := V15.cell
      have q17 := V17.cell
      have q19 := V19.cell
      have q21 := V21.cell
      have q23 := V23.cell
      go_wp2_with fail
      refine (same_any _ _ _ _ _ _ _ _ _ V19.rd V6.rd (by omega) (by omega)).mono ?_
      rintro e wc ⟨rfl, hB⟩
      rw [S2.out]
      replace hBB := hBB.trans (hB.mono hle)
      replace V6 := V6.below hB
      replace V13 := V13.below hB
      replace V15 := V15.below hB
      replace V17 := V17.below hB
      replace V19 := V19.below hB
      replace V21 := V21.below hB
      replace V23 := V23.below hB
      clear hle hB q6 q13 q15 q17 q19 q21 q23
      have hle : w.heap.size ≤ wc.heap.size := hBB.size
      have q6 := V6.cell
      have q13 := V13.cell
      have q15 := V15.cell
      have q17 := V17.cell
      have q19 := V19.cell
      have q21 := V21.cell
      have q23 := V23.cell
      go_wp2_with fail
      refine (same_any _ _ _ _ _ _ _ _ _ V21.rd V23.rd (by omega) (by omega)).mono ?_
      rintro e wd ⟨rfl, hB⟩
      rw [S3.out]
      replace hBB := hBB.trans (hB.mono hle)
      replace V6 := V6.below hB
      replace V13 := V13.below hB
      replace V15 := V15.below hB
      replace V17 := V17.below hB
      replace V19 := V19.below hB
      replace V21 := V21.below hB
      replace V23 := V23.below hB
      clear hle hB q6 q13 q15 q17 q19 q21 q23
      have hle : w.heap.size ≤ wd.heap.size := hBB.size
      have q6 := V6.cell
      have q13 := V13.cell
      have q15 := V15.cell
      have q17 := V17.cell
      have q19 := V19.cell
      have q21 := V21.cell
      have q23 := V23.cell
      go_wp2_with fail
      refine (alive_any _).mono ?_
      rintro e we ⟨rfl, hB⟩
      replace hBB := hBB.trans (hB.mono hle)
      replace V6 := V6.below hB
      replace V13 := V13.below hB
      replace V15 := V15.below hB
      replace V17 := V17.below hB
      replace V19 := V19.below hB
      replace V21 := V21.below hB
      replace V23 := V23.below hB
      clear hle hB q6 q13 q15 q17 q19 q21 q23
      have hle : w.heap.size ≤ we.heap.size := hBB.size
      have q6 := V6.cell
      have q13 := V13.cell
      have q15 := V15.cell
      have q17 := V17.cell
      have q19 := V19.cell
      have q21 := V21.cell
      have q23 := V23.cell
      go_wp2_with fail
      refine (read_any _ _ _ _ _ _ V6.rd (by omega)).mono ?_
      rintro e wf ⟨rfl, hB⟩
      replace hBB := hBB.trans (hB.mono hle)
      replace V6 := V6.below hB
      replace V13 := V13.below hB
      clear hle hB q6 q13
      have hle : w.heap.size ≤ wf.heap.size := hBB.size
      have q6 := V6.cell
      have q13 := V13.cell
      go_wp2_with fail
      refine (read_any _ _ _ _ _ _ V13.rd (by omega)).mono ?_
      rintro e wg ⟨rfl, hB⟩
      rw [F1.out other]
      replace hBB := hBB.trans (hB.mono hle)
      clear q6 q13
      by_cases ho : other = (i : Int)
      · have ho' : (other == (i : Int)) = true := by simpa using ho
        clear ho
        generalize findE ss other = E at *
        go_wp2_with fail
        go_ret
        exact ⟨rfl, hBB⟩
      · rw [F2.out other ho]
        have ho' : (other == (i : Int)) = false := by simpa using ho
        clear ho
        generalize findE ss other = E at *
        generalize readS ss other = x at *
        go_wp2_with fail
        go_ret
        exact ⟨rfl, hBB⟩
    · have GE := Lib.hid (tearE_bad (t := t) (k := (k0.tmod 129 % 129)) hz)
      have HLL : Hid (tearL ss a t (k0.tmod 129 % 129) = []) := tearL_bad (by rw [GE.out]; exact hz)
      have hz' : (findE ss a == 0) = false := by simpa using hz
      clear hz
      refine (tear_any _ _ _ _ _ _ _ _ V6.rd (by omega) (by rw [hwh.out]; unfold maxLen; omega)).mono ?_
      rintro e w2 ⟨⟨o13, n13, c13, rfl, hT⟩, hB2⟩
      rw [GE.out]
      obtain rfl : 0 = n13 := by rw [← hT.len, HLL.out]; rfl
      replace hBB := below_next hBB hle hB2 (.cells #[.slice o13 0 c13] 24)
      have V13 := Var.new hT
      have hle : w.heap.size ≤ (w2.alloc (.cells #[.slice o13 0 c13] 24)).heap.size := hBB.size
      clear q6 hB2 hT V6
      generalize findE ss a = E at *
      go_wp2_with fail
      refine (alive_any _).mono ?_
      rintro e w3 ⟨rfl, hB3⟩
      have q13 := (V13.below hB3).cell
      go_wp2_with fail
      go_ret
      exact ⟨rfl, hBB.trans (hB3.mono hle)⟩
end Go.Proofs.Ytaknpipghkannaa.sectorApart
