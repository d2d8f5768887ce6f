/-
  What is opened of any text.
-/
import Derived.Test.YtmjbhmmcpjhmcaaSealC
namespace Go.Proofs.Ytmjbhmmcpjhmcaa
open Go.RowKit
set_option linter.unusedVariables false

theorem results_tmp4 {fn : Func} {t u v x : Tmp} (h : fn.results = #[.tmp t, .tmp u, .tmp v, .tmp x]) (tmps : Array Value) (P : Program) (w : World) :
    (results fn tmps).run P w = .ok (.tuple #[tmps.getD t undef, tmps.getD u undef, tmps.getD v undef, tmps.getD x undef]) w := by
  simp [results, h]
/-- the generation, the number, the length and the payload that a text tells -/
def gOf (t : ByteArray) : Int := ((t.data.toList.getD 0 0).toNat : Int)
def nOf (t : ByteArray) : Int := ((t.data.toList.getD 1 0).toNat : Int)
def mOf (t : ByteArray) : Nat := (t.data.toList.getD 2 0).toNat
def pOf (t : ByteArray) : ByteArray := sub t.data.toList 3 (mOf t)
/-- does it end as it begins? is its sum right? is it else a sealed sector? -/
def endsB (t : ByteArray) : Bool := decide (sub t.data.toList 0 2 = sub t.data.toList 126 2)
def sumB (t : ByteArray) : Bool := decide (sub t.data.toList 99 4 = sumS (sub t.data.toList 0 99))
def openB (t : ByteArray) : Bool := decide (mOf t ≤ 96) && sealedB t (gOf t) (nOf t) (pOf t)
/-- why it is not opened -/
def openE (t : ByteArray) : Int := if t.size = 128 then (if endsB t = true then (if sumB t = true then (if openB t = true then 0 else 1) else 7) else 6) else 2
def openG (t : ByteArray) : Int := if openE t = 0 then gOf t else 0
def openN (t : ByteArray) : Int := if openE t = 0 then nOf t else 0
def openP (t : ByteArray) : ByteArray := if openE t = 0 then pOf t else ⟨#[]⟩
/-- all that is told -/
def openV (t : ByteArray) : Value := .tuple #[.int .i64 (openG t), .int .i64 (openN t), .string (openP t), .int .i64 (openE t)]
theorem openV_no {t : ByteArray} {x : Int} (h : openE t = x) (hx : x ≠ 0) : openV t = .tuple #[.int .i64 0, .int .i64 0, .string ⟨#[]⟩, .int .i64 x] := by
  unfold openV openG openN openP
  rw [h, if_neg hx, if_neg hx, if_neg hx]
theorem openV_yes {t : ByteArray} (h : openE t = 0) : openV t = .tuple #[.int .i64 (gOf t), .int .i64 (nOf t), .string (pOf t), .int .i64 0] := by
  unfold openV openG openN openP
  rw [h, if_pos rfl, if_pos rfl, if_pos rfl]
theorem ret_val {a b : Value} (h : a = b) : Ending.returned a = .returned b := by rw [h]
theorem put_all (s : ByteArray) (hs : s.size = 128) : putAt (List.replicate 128 0) 0 s.data.toList = s.data.toList := by
  have e : s.data.toList.length = 128 := by rw [Array.length_toList]; exact hs
  have h := put_mid [] (List.replicate 128 0) [] s.data.toList 0 rfl (by rw [e, List.length_replicate])
  simpa only [List.nil_append, List.append_nil] using h
theorem beq_dec (a b : ByteArray) : (a.toList == b.toList) = decide (a = b) := by
  by_cases h : a = b
  · subst h
    simp
  · rw [list_ne h, decide_eq_false h]
theorem sum_neq (t : ByteArray) : (!(sub t.data.toList 99 4).toList == (sumS (sub t.data.toList 0 99)).toList) = !sumB t := by rw [beq_dec]; rfl
theorem payload_any (A : Nat) (t : ByteArray) (w : World) (hR : BRow w A t.data.toList) (hl : t.data.toList.length = 128) :
    Calls Try.prog 87 #[.agg (fieldsOf A)] w fun e w' => e = .returned (if mOf t ≤ 96 then .tuple #[.string (pOf t), .bool true] else .tuple #[.string ⟨#[]⟩, .bool false]) ∧ Below w.heap.size w w' := payloadOf_any A t.data.toList w hR hl
set_option maxRecDepth 100000 in
set_option maxHeartbeats 3200000 in
theorem open_any (t : ByteArray) (w : World) (hm : t.size ≤ maxLen) :
    Calls Try.prog 78 #[.string t] w fun e w' => e = .returned (openV t) ∧ Below w.heap.size w w' := by
  unfold maxLen at hm
  by_cases h1 : t.size = 128
  · have b1 : ((t.size : Int) == 128) = true := by simp only [beq_iff_eq]; omega
    have n1 : ((t.size : Int) != 128) = false := by rw [bne, b1]; rfl
    have hz := zeroArr
    have hal := arrAll w.heap.size
    have hcp := fun ty => run_copy_text _ ty w.heap.size 0 128 128 t _ (row_new w) (by omega) (by rw [List.length_replicate]; omega)
    rw [put_all t h1] at hcp
    have hR1 := (row_new w).setRow t.data.toList
    have hB1 := below_setRow (below_alloc w (.cells zeroRow 86)) (Nat.le_refl w.heap.size) (cellsS t.data.toList).toArray
    have hl : t.data.toList.length = 128 := by rw [Array.length_toList]; exact h1
    have HL := Lib.hid hl
    have HV : Hid (endsB t = true → sumB t = true → openB t = true → openV t = .tuple #[.int .i64 (gOf t), .int .i64 (nOf t), .string (pOf t), .int .i64 0]) := fun a b c => openV_yes (by unfold openE; rw [if_pos h1, if_pos a, if_pos b, if_pos c])
    have HV6 : Hid (endsB t = false → openV t = .tuple #[.int .i64 0, .int .i64 0, .string ⟨#[]⟩, .int .i64 6]) := fun a => openV_no (by unfold openE; rw [if_pos h1, if_neg (by rw [a]; decide)]) (by omega)
    have HV7 : Hid (endsB t = true → sumB t = false → openV t = .tuple #[.int .i64 0, .int .i64 0, .string ⟨#[]⟩, .int .i64 7]) := fun a b => openV_no (by unfold openE; rw [if_pos h1, if_pos a, if_neg (by rw [b]; decide)]) (by omega)
    have HV1 : Hid (endsB t = true → sumB t = true → openB t = false → openV t = .tuple #[.int .i64 0, .int .i64 0, .string ⟨#[]⟩, .int .i64 1]) := fun a b c => openV_no (by unfold openE; rw [if_pos h1, if_pos a, if_pos b, if_neg (by rw [c]; decide)]) (by omega)
    obtain ⟨W1, hW1⟩ : ∃ W1, W1 = (w.alloc (.cells zeroRow 86)).setRow w.heap.size (cellsS t.data.toList).toArray := ⟨_, rfl⟩
    rw [← hW1] at hcp hR1 hB1
    clear hW1 hl h1
    go_enter Try.func78, Try.ntmps78
    go_wp2_with fail
    refine (cut_any _ _).mono ?_
    rintro e w2 ⟨rfl, hB2⟩
    clear hcp hal hz
    have hA : w.heap.size < W1.heap.size := lt_of_row hR1
    have hne : ¬ w.heap.size = w2.heap.size := by have := hB2.size; omega
    have hR : BRow (w2.alloc (.cells (fieldsOf w.heap.size) 115)) w.heap.size t.data.toList := (hR1.below hB2).below (below_alloc w2 _)
    have hF : FRow (w2.alloc (.cells (fieldsOf w.heap.size) 115)) w2.heap.size w.heap.size := heap_alloc_new w2 _
    have hBB : Below w.heap.size w (w2.alloc (.cells (fieldsOf w.heap.size) 115)) := (hB1.trans (hB2.mono (by omega))).trans ((below_alloc w2 _).mono (by have := hB2.size; omega))
    have hFc : ∀ i, (w2.alloc (.cells (fieldsOf w.heap.size) 115)).cell? ⟨w2.heap.size, i, none⟩ = (fieldsOf w.heap.size)[i]? := hF.cell
    have c0 := hFc 0
    have c5 := hFc 5
    have v0 := run_string _ w.heap.size 0 2 2 _ hR (by rw [HL.out]; omega)
    have v5 := run_string _ w.heap.size 126 2 2 _ hR (by rw [HL.out]; omega)
    clear hFc hB2 hR1 hB1 hA
    unfold fieldsOf at c0 c5 v0 v5
    rw [show fieldsOf w.heap.size = #[.slice (some ⟨w.heap.size, 0, none⟩) 2 2, .slice (some ⟨w.heap.size, 2, none⟩) 1 1, .slice (some ⟨w.heap.size, 3, none⟩) 96 96, .slice (some ⟨w.heap.size, 0, none⟩) 99 99, .slice (some ⟨w.heap.size, 99, none⟩) 4 4, .slice (some ⟨w.heap.size, 126, none⟩) 2 2] from rfl]
    by_cases h2 : sub t.data.toList 0 2 = sub t.data.toList 126 2
    · have H2 : Hid (endsB t = true) := decide_eq_true h2
      rw [h2] at v0
      clear h2
      go_wp2_with fail
      clear v0 v5 c0 c5
      rw [show #[.slice (some ⟨w.heap.size, 0, none⟩) 2 2, .slice (some ⟨w.heap.size, 2, none⟩) 1 1, .slice (some ⟨w.heap.size, 3, none⟩) 96 96, .slice (some ⟨w.heap.size, 0, none⟩) 99 99, .slice (some ⟨w.heap.size, 99, none⟩) 4 4, .slice (some ⟨w.heap.size, 126, none⟩) 2 2] = fieldsOf w.heap.size from rfl]
      generalize w2.alloc (.cells (fieldsOf w.heap.size) 115) = W at *
      generalize w2.heap.size = F at *
      go_cut [31] (fun s31 wx => s31 = .bool (!sumB t) ∧ BRow wx w.heap.size t.data.toList ∧ FRow wx F w.heap.size ∧ Below w.heap.size w wx)
      case first =>
        as_aux_lemma =>
          have c0 : W.cell? ⟨F, 0, none⟩ = some (.slice (some ⟨w.heap.size, 0, none⟩) 2 2) := hF.cell 0
          have c1 : W.cell? ⟨F, 1, none⟩ = some (.slice (some ⟨w.heap.size, 2, none⟩) 1 1) := hF.cell 1
          have c2 : W.cell? ⟨F, 2, none⟩ = some (.slice (some ⟨w.heap.size, 3, none⟩) 96 96) := hF.cell 2
          have c3 : W.cell? ⟨F, 3, none⟩ = some (.slice (some ⟨w.heap.size, 0, none⟩) 99 99) := hF.cell 3
          have c4 : W.cell? ⟨F, 4, none⟩ = some (.slice (some ⟨w.heap.size, 99, none⟩) 4 4) := hF.cell 4
          have c5 : W.cell? ⟨F, 5, none⟩ = some (.slice (some ⟨w.heap.size, 126, none⟩) 2 2) := hF.cell 5
          have v4 := run_string W.drew w.heap.size 99 4 4 _ hR (by rw [HL.out]; omega)
          go_region_with (go_at_call 86; refine (sumOf_any w.heap.size t.data.toList W.drew hR HL.out).mono ?_; rintro e w5 ⟨rfl, hB5⟩; have d4 := keepC hB5 c4; have u4 := run_string w5 w.heap.size 99 4 4 _ (BRow.below (w := W.drew) hR hB5) (by rw [HL.out]; omega))
          all_goals (go_wp2_with fail; go_meet)
          all_goals exact ⟨val_bool (sum_neq t), BRow.below (w := W.drew) hR hB5, FRow.below (w := W.drew) hF hB5, (hBB.drew).trans (hB5.mono hBB.size)⟩
      case rest =>
        obtain ⟨rfl, hR2, hF2, hB2⟩ := hcut
        clear hR hF hBB
        have c0 : wc.cell? ⟨F, 0, none⟩ = some (.slice (some ⟨w.heap.size, 0, none⟩) 2 2) := hF2.cell 0
        have c1 : wc.cell? ⟨F, 1, none⟩ = some (.slice (some ⟨w.heap.size, 2, none⟩) 1 1) := hF2.cell 1
        have c2 : wc.cell? ⟨F, 2, none⟩ = some (.slice (some ⟨w.heap.size, 3, none⟩) 96 96) := hF2.cell 2
        have c3 : wc.cell? ⟨F, 3, none⟩ = some (.slice (some ⟨w.heap.size, 0, none⟩) 99 99) := hF2.cell 3
        have c4 : wc.cell? ⟨F, 4, none⟩ = some (.slice (some ⟨w.heap.size, 99, none⟩) 4 4) := hF2.cell 4
        have c5 : wc.cell? ⟨F, 5, none⟩ = some (.slice (some ⟨w.heap.size, 126, none⟩) 2 2) := hF2.cell 5
        have r0 := hR2.cell 0 (by rw [HL.out]; omega)
        have r1 := hR2.cell 1 (by rw [HL.out]; omega)
        have bG : (t.data.toList.getD 0 0).toNat < 256 := UInt8.toNat_lt _
        have bN : (t.data.toList.getD 1 0).toNat < 256 := UInt8.toNat_lt _
        obtain ⟨G, hG⟩ : ∃ G : Nat, G = (t.data.toList.getD 0 0).toNat := ⟨_, rfl⟩
        obtain ⟨N, hN⟩ : ∃ N : Nat, N = (t.data.toList.getD 1 0).toNat := ⟨_, rfl⟩
        rw [← hG] at r0 bG
        rw [← hN] at r1 bN
        have EG : Hid (gOf t = (G : Int)) := by show _ = _; rw [hG]; rfl
        have EN : Hid (nOf t = (N : Int)) := by show _ = _; rw [hN]; rfl
        clear hG hN
        cases h3 : sumB t
        · have H3 := Lib.hid h3
          clear h3
          go_wp2_with fail
          ((try simp only [Exit.inBlock, Exit.then]); refine bodyPost_ret (results_tmp4 rfl _ _ _) rfl ?_)
          exact ⟨ret_val (HV7.out H2.out H3.out).symm, hB2⟩
        · have H3 := Lib.hid h3
          clear h3
          go_wp2_with fail
          go_quiet (fail)
          go_wp2_with fail
          refine (payload_any w.heap.size t (wc.drewN nq) hR2 HL.out).mono ?_
          rintro e w3 ⟨rfl, hB3⟩
          have hB4 : Below w.heap.size w w3 := (below_drewN hB2 _).trans (hB3.mono hB2.size)
          clear c0 c1 c2 c3 c4 c5 r0 r1 hB3
          by_cases h4 : mOf t ≤ 96
          · rw [if_pos h4]
            have hps : (pOf t).size ≤ 96 := by unfold pOf; rw [sub_size _ _ _ (by rw [HL.out]; omega)]; exact h4
            have H4 := Lib.hid h4
            clear h4
            go_wp2_with fail
            refine (isSealed_any t (G : Int) (N : Int) (pOf t) _ hps).mono ?_
            rintro e w5 ⟨rfl, hB5⟩
            have hB6 : Below w.heap.size w w5 := hB4.trans (hB5.mono hB4.size)
            cases h5 : sealedB t (G : Int) (N : Int) (pOf t)
            · have H5 : Hid (openB t = false) := by show _ = _; unfold openB; rw [EG.out, EN.out, h5, Bool.and_false]
              clear h5
              go_wp2_with fail
              ((try simp only [Exit.inBlock, Exit.then]); refine bodyPost_ret (results_tmp4 rfl _ _ _) rfl ?_)
              exact ⟨ret_val (HV1.out H2.out H3.out H5.out).symm, hB6⟩
            · have H5 : Hid (openB t = true) := by show _ = _; unfold openB; rw [EG.out, EN.out, h5, decide_eq_true H4.out]; rfl
              clear h5
              go_wp2_with fail
              ((try simp only [Exit.inBlock, Exit.then]); refine bodyPost_ret (results_tmp4 rfl _ _ _) rfl ?_)
              have hv := HV.out H2.out H3.out H5.out
              rw [EG.out, EN.out] at hv
              exact ⟨ret_val hv.symm, hB6⟩
          · rw [if_neg h4]
            have H5 : Hid (openB t = false) := by show _ = _; unfold openB; rw [decide_eq_false h4]; rfl
            clear h4
            go_wp2_with fail
            ((try simp only [Exit.inBlock, Exit.then]); refine bodyPost_ret (results_tmp4 rfl _ _ _) rfl ?_)
            exact ⟨ret_val (HV1.out H2.out H3.out H5.out).symm, hB4⟩
    · have H2 : Hid (endsB t = false) := decide_eq_false h2
      have hnb := list_nb h2
      have hne := list_ne h2
      clear h2
      go_wp2_with fail
      ((try simp only [Exit.inBlock, Exit.then]); refine bodyPost_ret (results_tmp4 rfl _ _ _) rfl ?_)
      exact ⟨ret_val (HV6.out H2.out).symm, hBB⟩
  · have b1 : ((t.size : Int) == 128) = false := by simp only [beq_eq_false_iff_ne, ne_eq]; omega
    have n1 : ((t.size : Int) != 128) = true := by rw [bne, b1]; rfl
    have e1 : Hid (openE t = 2) := by show _ = _; unfold openE; rw [if_neg h1]
    clear h1
    go_enter Try.func78, Try.ntmps78
    go_wp2_with fail
    ((try simp only [Exit.inBlock, Exit.then]); refine bodyPost_ret (results_tmp4 rfl _ _ _) rfl ?_)
    exact ⟨ret_val (openV_no e1.out (by omega)).symm, Below.refl _ _⟩
end Go.Proofs.Ytmjbhmmcpjhmcaa
