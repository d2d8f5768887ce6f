/-
  The program's own: Print (package config).
-/
import Derived.Test.YtbihaoibmkdfjaaGreatDoorCfM
namespace Go.Proofs.YtbihaoibmkdfjaaGreatDoor
open Go.RowKit Go.Shelf
set_option linter.unusedVariables false

theorem retSE {a b : ByteArray} {e : Int} (h : a = b) : Ending.returned (.tuple #[.string a, .int .i64 e]) = .returned (.tuple #[.string b, .int .i64 e]) := by rw [h]
def lineT (ws : List (List UInt8)) : List UInt8 := joinB ws ++ [10]
theorem lineT_len {ws : List (List UInt8)} (h : ∀ v ∈ ws, v.length ≤ 100) (hl : ws.length ≤ 10) : (lineT ws).length ≤ 1011 := by
  have h1 := joinB_len 100 ws h
  unfold lineT
  rw [List.length_append]
  have : (100 + 1) * ws.length ≤ 101 * 10 := Nat.mul_le_mul_left _ hl
  simp only [List.length_singleton]
  omega
theorem printC_is (c : CfgL) : printC c = ((c.1.map rcvW).flatMap lineT ++ (c.2.1.map (rteW c.1)).flatMap lineT) ++ (lineT [repT, digsB c.2.2.1.toNat] ++ lineT [beatT, digsB c.2.2.2.toNat]) := by
  unfold printC cfgW
  simp only [List.map_append, List.flatMap_append, List.map_cons, List.map_nil, List.flatMap_cons, List.flatMap_nil, List.append_nil, List.append_assoc]
  congr 1
  · rw [List.flatMap_map]; rfl
  · congr 1
    · rw [List.flatMap_map]; rfl
    · unfold lineT; simp
theorem ts_two (w : World) (a b : ByteArray) : Ts (w.alloc (.cells #[.string a, .string b] 9)) (some ⟨w.heap.size, 0, none⟩) 2 2 [a, b] := by
  refine ⟨rfl, Nat.le_refl _, fun i hi => ⟨w.heap.size, 0, rfl, ?_⟩⟩
  rw [Nat.zero_add, (Vals.new w 9 #[.string a, .string b]).cell i]
  have : i = 0 ∨ i = 1 := by omega
  rcases this with rfl | rfl <;> rfl
theorem rcvs_next (l : List R9) (k : Nat) (hk : k < l.length) : (((l.take (k + 1)).map rcvW).flatMap lineT) = ((l.take k).map rcvW).flatMap lineT ++ lineT (rcvW (l.getD k zR)) := by
  rw [List.take_succ_eq_append_getElem hk, List.map_append, List.flatMap_append, getD_R l k hk]
  simp
theorem rtes_next (rs : List R9) (l : List T2) (k : Nat) (hk : k < l.length) : (((l.take (k + 1)).map (rteW rs)).flatMap lineT) = ((l.take k).map (rteW rs)).flatMap lineT ++ lineT (rteW rs (l.getD k zT)) := by
  rw [List.take_succ_eq_append_getElem hk, List.map_append, List.flatMap_append, getD_T l k hk]
  simp
theorem rteW_ten {rs : List R9} {t : T2} (h : rteR rs.length t = true) : (rteW rs t).length ≤ 10 := by
  obtain ⟨_, _, h3, h4⟩ := rte_parts h
  have := (mats_all h4).1
  rw [rteW_is]
  unfold namesT
  simp
  omega
theorem often_time {n : Int} (h : oftenB n = true) : timeB n = true := by
  unfold oftenB at h
  unfold timeB
  rw [Bool.and_eq_true, decide_eq_true_eq, decide_eq_true_eq] at h ⊢
  omega
theorem often_len {n : Int} (h : oftenB n = true) : (digsB n.toNat).length ≤ 100 := by
  have h1 := often_time h
  unfold timeB at h1
  rw [Bool.and_eq_true, decide_eq_true_eq, decide_eq_true_eq] at h1
  exact digs_len h1.1 (by unfold topT; omega)
set_option maxRecDepth 100000 in
set_option maxHeartbeats 6400000 in
theorem print_no (c : CfgL) (o1 : Option Addr) (n1 c1 : Nat) (o2 : Option Addr) (n2 c2 : Nat) (w : World) (h1 : Rs w o1 n1 c1 c.1) (h2 : Qs w o2 n2 c2 c.2.1) (hn : n1 ≤ 1000000) (hm : n2 ≤ 1000000)
    (hb : ∀ i, i < c.2.1.length → (c.2.1.getD i zT).1.length ≤ 1000000 ∧ (c.2.1.getD i zT).2.length ≤ 1000000) (hr : cfgR c = false) :
    Calls Tryz.prog 11 #[.agg (cfgV (.slice o1 n1 c1) (.slice o2 n2 c2) c.2.2.1 c.2.2.2)] w fun e w' => e = .returned (.tuple #[.string ⟨#[]⟩, .int .i64 1]) ∧ Below w.heap.size w w' := by
  obtain ⟨rep, hrep⟩ : ∃ rep, c.2.2.1 = rep := ⟨_, rfl⟩
  obtain ⟨beat, hbeat⟩ : ∃ beat, c.2.2.2 = beat := ⟨_, rfl⟩
  have V0 := Vals.new w 25 (cfgV (.slice o1 n1 c1) (.slice o2 n2 c2) rep beat)
  have B0 := below_alloc w (.cells (cfgV (.slice o1 n1 c1) (.slice o2 n2 c2) rep beat) 25)
  have HC := cfg_c c o1 n1 c1 o2 n2 c2 _ (h1.below B0 (Nat.le_refl _)) (h2.below B0 (Nat.le_refl _)) hn hm hb
  rw [hr, hrep, hbeat] at HC
  rw [hrep, hbeat]
  clear h1 h2 hb hr hrep hbeat
  go_enter Tryz.func11, Tryz.ntmps11
  go_upto_region 1 with fail
  generalize w.alloc (.cells (cfgV (.slice o1 n1 c1) (.slice o2 n2 c2) rep beat) 25) = w1 at *
  have p0 : w1.cell? ⟨w.heap.size, 0, none⟩ = some (.slice o1 n1 c1) := V0.cell 0
  have p1 : w1.cell? ⟨w.heap.size, 1, none⟩ = some (.slice o2 n2 c2) := V0.cell 1
  have p2 : w1.cell? ⟨w.heap.size, 2, none⟩ = some (.int .i64 rep) := V0.cell 2
  have p3 : w1.cell? ⟨w.heap.size, 3, none⟩ = some (.int .i64 beat) := V0.cell 3
  go_wp2_with fail
  refine HC.mono ?_
  rintro e w2 ⟨rfl, B2⟩
  go_wp2_with fail
  go_ret2
  exact ⟨rfl, B0.trans (B2.mono B0.size)⟩
set_option maxRecDepth 100000 in
set_option maxHeartbeats 12800000 in
theorem print_yes (c : CfgL) (o1 : Option Addr) (n1 c1 : Nat) (o2 : Option Addr) (n2 c2 : Nat) (w : World) (h1 : Rs w o1 n1 c1 c.1) (h2 : Qs w o2 n2 c2 c.2.1) (hr : cfgR c = true) (hT : Tabs w) :
    Calls Tryz.prog 11 #[.agg (cfgV (.slice o1 n1 c1) (.slice o2 n2 c2) c.2.2.1 c.2.2.2)] w fun e w' => e = .returned (.tuple #[.string (tx (printC c)), .int .i64 0]) ∧ Below w.heap.size w w' := by
  obtain ⟨hp1, hp2, hp3, hp4, hp5, hp6, hp7⟩ := cfg_parts hr
  have HPr := Lib.hid (printC_is c)
  have hl1 := h1.len
  have hl2 := h2.len
  have hr1 := h1.room
  have hr2 := h2.room
  have hn1 : n1 ≤ 4 := by omega
  have hn2 : n2 ≤ 4 := by omega
  have hb : ∀ i, i < c.2.1.length → (c.2.1.getD i zT).1.length ≤ 1000000 ∧ (c.2.1.getD i zT).2.length ≤ 1000000 := fun i hi => by
    have := hp3 (c.2.1.getD i zT) (by rw [getD_T _ i hi]; exact List.getElem_mem _)
    obtain ⟨_, _, h3, h4⟩ := rte_parts this
    have := (mats_all h4).1
    omega
  have HRr : Hid (∀ k, k < n1 → rcvR (c.1.getD k zR) = true) := fun k hk => hp1 _ (mem_R _ k (by omega))
  have HTr : Hid (∀ k, k < n2 → rteR c.1.length (c.2.1.getD k zT) = true) := fun k hk => hp3 _ (by rw [getD_T _ k (by omega)]; exact List.getElem_mem _)
  have HLa : Hid (∀ k, k < n2 → ∀ v ∈ rteW c.1 (c.2.1.getD k zT), v.length ≤ 100) := fun k hk => rteW_len hp1 (HTr.out k hk)
  have HR1 : Hid (∀ k, k < n1 → ((c.1.take (k + 1)).map rcvW).flatMap lineT = ((c.1.take k).map rcvW).flatMap lineT ++ lineT (rcvW (c.1.getD k zR))) := fun k hk => rcvs_next c.1 k (by omega)
  have HR2 : Hid (∀ k, k < n2 → ((c.2.1.take (k + 1)).map (rteW c.1)).flatMap lineT = ((c.2.1.take k).map (rteW c.1)).flatMap lineT ++ lineT (rteW c.1 (c.2.1.getD k zT))) := fun k hk => rtes_next c.1 c.2.1 k (by omega)
  have HE1 : Hid (c.1.take n1 = c.1) := List.take_of_length_le (by omega)
  have HE2 : Hid (c.2.1.take n2 = c.2.1) := List.take_of_length_le (by omega)
  obtain ⟨rep, hrep⟩ : ∃ rep, c.2.2.1 = rep := ⟨_, rfl⟩
  obtain ⟨beat, hbeat⟩ : ∃ beat, c.2.2.2 = beat := ⟨_, rfl⟩
  have V0 := Vals.new w 25 (cfgV (.slice o1 n1 c1) (.slice o2 n2 c2) rep beat)
  have B0 := below_alloc w (.cells (cfgV (.slice o1 n1 c1) (.slice o2 n2 c2) rep beat) 25)
  have HC := cfg_c c o1 n1 c1 o2 n2 c2 _ (h1.below B0 (Nat.le_refl _)) (h2.below B0 (Nat.le_refl _)) (by omega) (by omega) hb
  have ht1 := often_time hp6
  have ht2 := often_time hp7
  have hd1 := often_len hp6
  have hd2 := often_len hp7
  rw [hrep] at ht1 hd1
  rw [hbeat] at ht2 hd2
  rw [hr, hrep, hbeat] at HC
  rw [hrep, hbeat] at HPr ⊢
  have HRl := Lib.hid hl1
  clear hb hr hrep hbeat hp1 hp2 hp3 hp4 hp5 hp6 hp7 hl2
  go_enter Tryz.func11, Tryz.ntmps11
  go_upto_region 1 with fail
  obtain ⟨A, hA⟩ : ∃ A, A = w.heap.size := ⟨_, rfl⟩
  rw [← hA] at V0 ⊢
  clear hA
  generalize w.alloc (.cells (cfgV (.slice o1 n1 c1) (.slice o2 n2 c2) rep beat) 25) = w1 at *
  have p0 : w1.cell? ⟨A, 0, none⟩ = some (.slice o1 n1 c1) := V0.cell 0
  have p1 : w1.cell? ⟨A, 1, none⟩ = some (.slice o2 n2 c2) := V0.cell 1
  have p2 : w1.cell? ⟨A, 2, none⟩ = some (.int .i64 rep) := V0.cell 2
  have p3 : w1.cell? ⟨A, 3, none⟩ = some (.int .i64 beat) := V0.cell 3
  go_wp2_with fail
  refine HC.mono ?_
  rintro e w2 ⟨rfl, B2⟩
  have V2 := V0.keep B2 (Nat.le_refl _)
  have B3 := B0.trans (B2.mono B0.size)
  clear p0 p1 p2 p3 V0 B0 B2 HC
  have p0 : w2.cell? ⟨A, 0, none⟩ = some (.slice o1 n1 c1) := V2.cell 0
  go_wp2_with fail
  go_loopw [4, 15] (fun s4 s15 wr => ∃ (k : Nat) (z : ByteArray), k ≤ n1 ∧ s15 = .int .i64 k ∧ s4 = .string z ∧ Hid (z = tx (((c.1.take k).map rcvW).flatMap lineT)) ∧ z.size ≤ 2000 * k ∧ Below w2.heap.size w2 wr) (fun _ s15 _ => n1 - (intOf s15).toNat)
  case atStart => exact ⟨0, _, Nat.zero_le _, rfl, rfl, rfl, Nat.le_refl 0, Below.refl _ _⟩
  case round =>
    obtain ⟨k, z, hk, rfl, rfl, HZ, hzk, hB⟩ := hrel
    clear p0
    have Bw := B3.trans (hB.mono B3.size)
    by_cases hlt : k < n1
    · obtain ⟨g, o, rfl, e0, e1, e2, e3, e4, e5, e6, e7, e8⟩ := (h1.below Bw (Nat.le_refl _)).nine k hlt
      have hrr := HRr.out k hlt
      have HW := fun wx (B : Below w.heap.size w wx) => wordsRcv_c (c.1.getD k zR) hrr wx (hT.below B (Nat.le_refl _))
      have hwl := rcvW_len hrr
      have hw10 : (rcvW (c.1.getD k zR)).length = 10 := rfl
      have hll := lineT_len hwl (by omega)
      have HX : Hid (tx (((c.1.take (k + 1)).map rcvW).flatMap lineT) = z ++ tx (lineT (rcvW (c.1.getD k zR)))) := by
        show _ = _
        rw [HR1.out k hlt, HZ.out, tx_append]
      have HLo := fun oa cap w (hT : Ts w oa 10 cap ((rcvW (c.1.getD k zR)).map tx)) => lineOf_c (rcvW (c.1.getD k zR)) oa 10 cap w hT (by omega) (by omega) (fun v hv => Nat.le_trans (hwl v hv) (by omega))
      have hys : (tx (lineT (rcvW (c.1.getD k zR)))).size ≤ 1011 := by rw [tx_size]; exact hll
      change ∀ oa cap w, _ → Calls _ _ _ _ (fun e w' => e = .returned (.string (tx (lineT (rcvW (c.1.getD k zR))))) ∧ _) at HLo
      clear hrr hwl hll
      generalize tx (lineT (rcvW (c.1.getD k zR))) = y at *
      unfold WdsOut at HW
      rw [hw10] at HW
      generalize rcvW (c.1.getD k zR) = ws at *
      generalize c.1.getD k zR = r at *
      obtain ⟨x, ba, tp, ji, tr, fa, op, bu, ev⟩ := r
      dsimp only [aggR] at e0 e1 e2 e3 e4 e5 e6 e7 e8 HW
      have Ba := Bw.alloc Bw.size (.cells #[.string x, .int .i64 ba, .int .i64 tp, .int .i64 ji, .int .i64 tr, .int .i64 fa, .int .i64 op, .int .i64 bu, .int .i64 ev] 52)
      have hBa := hB.alloc hB.size (.cells #[.string x, .int .i64 ba, .int .i64 tp, .int .i64 ji, .int .i64 tr, .int .i64 fa, .int .i64 op, .int .i64 bu, .int .i64 ev] 52)
      have HW2 := HW _ Ba
      clear HW hw10
      go_wp2_with fail
      refine HW2.mono ?_
      rintro e w5 ⟨⟨oa, cap, rfl, hTs⟩, B5⟩
      have HL2 := HLo oa cap w5 hTs
      clear HLo HW2 hTs e0 e1 e2 e3 e4 e5 e6 e7 e8
      go_wp2_with fail
      refine HL2.mono ?_
      rintro e w6 ⟨rfl, B6⟩
      have B7 : Below w2.heap.size w2 w6 := (hBa.trans (B5.mono hBa.size)).trans (B6.mono (hBa.trans (B5.mono hBa.size)).size)
      clear HL2 B5 B6 hBa Ba Bw hB
      go_wp2_with fail
      go_roundw
      case rel => exact ⟨k + 1, _, by omega, by go_num, rfl, HX.out.symm, by rw [ByteArray.size_append]; omega, B7⟩
      case measure => simp [intOf]; omega
    · obtain rfl : k = n1 := by omega
      rw [HE1.out] at HZ
      have HZ1 := HZ
      have V4 := V2.keep hB (Nat.le_refl _)
      have p1 : wr.cell? ⟨A, 1, none⟩ = some (.slice o2 n2 c2) := V4.cell 1
      have p0 : wr.cell? ⟨A, 0, none⟩ = some (.slice o1 k c1) := V4.cell 0
      obtain ⟨A1, hA1⟩ : ∃ A1, A1 = (c.1.map rcvW).flatMap lineT := ⟨_, rfl⟩
      rw [← hA1] at HZ1 HPr
      have hz0 : z.size ≤ 8000 := by omega
      clear hB HZ HRr HR1 HE1 hA1 V2 hzk
      go_wp2_with fail
      go_loopw [4, 28] (fun s4 s28 wx => ∃ (i : Nat) (y : ByteArray), i ≤ n2 ∧ s28 = .int .i64 i ∧ s4 = .string y ∧ Hid (y = tx (A1 ++ ((c.2.1.take i).map (rteW c.1)).flatMap lineT)) ∧ y.size ≤ 8000 + 2000 * i ∧ Below w.heap.size w wx ∧ Vals wx A 25 (cfgV (.slice o1 k c1) (.slice o2 n2 c2) rep beat)) (fun _ s28 _ => n2 - (intOf s28).toNat)
      case atStart => exact ⟨0, z, Nat.zero_le _, rfl, rfl, by show _ = _; rw [HZ1.out]; simp, by omega, Bw, V4⟩
      case round =>
        obtain ⟨i, y, hi, rfl, rfl, HY, hyk, hB, hVx⟩ := hrel
        clear p0 p1 V4 Bw HZ1
        by_cases hlt2 : i < n2
        · obtain ⟨g, o, pa, m1, e1, pb, m2, e2, rfl, f0, f1, hC, hM⟩ := (h2.below hB (Nat.le_refl _)).cell i hlt2
          have htr := HTr.out i hlt2
          have ht10 := rteW_ten htr
          have hta := HLa.out i hlt2
          have hll := lineT_len hta ht10
          have p0 : wr.cell? ⟨A, 0, none⟩ = some (.slice o1 k c1) := hVx.cell 0
          have Ba := below_alloc wr (.cells #[.slice pa m1 e1, .slice pb m2 e2] 56)
          have hBa := hB.trans (Ba.mono hB.size)
          have hVa := hVx.alloc (.cells #[.slice pa m1 e1, .slice pb m2 e2] 56)
          have p0a : (wr.alloc (.cells #[.slice pa m1 e1, .slice pb m2 e2] 56)).cell? ⟨A, 0, none⟩ = some (.slice o1 k c1) := hVa.cell 0
          have HW2 := wordsRte_c c.1 (c.2.1.getD i zT) o1 k c1 pa m1 e1 pb m2 e2 _ (h1.below hBa (Nat.le_refl _)) (hC.below Ba (Nat.le_refl _)) (hM.below Ba (Nat.le_refl _)) (by omega) htr
          have HX : Hid (tx (A1 ++ ((c.2.1.take (i + 1)).map (rteW c.1)).flatMap lineT) = y ++ tx (lineT (rteW c.1 (c.2.1.getD i zT)))) := by
            show _ = _
            rw [HR2.out i hlt2, HY.out, tx_append, List.append_assoc]
          obtain ⟨nw, hnw⟩ : ∃ nw, nw = (rteW c.1 (c.2.1.getD i zT)).length := ⟨_, rfl⟩
          have hnw1 : 1 ≤ nw := by rw [hnw, rteW_is]; simp
          have HLo := fun oa cap w (hT : Ts w oa nw cap ((rteW c.1 (c.2.1.getD i zT)).map tx)) => lineOf_c (rteW c.1 (c.2.1.getD i zT)) oa nw cap w hT hnw1 (by omega) (fun v hv => Nat.le_trans (hta v hv) (by omega))
          have hys : (tx (lineT (rteW c.1 (c.2.1.getD i zT)))).size ≤ 1011 := by rw [tx_size]; exact hll
          change ∀ oa cap w, _ → Calls _ _ _ _ (fun e w' => e = .returned (.string (tx (lineT (rteW c.1 (c.2.1.getD i zT))))) ∧ _) at HLo
          unfold WdsOut at HW2
          rw [← hnw] at HW2
          clear htr ht10 hta hll hnw hC hM Ba
          generalize tx (lineT (rteW c.1 (c.2.1.getD i zT))) = z2 at *
          generalize rteW c.1 (c.2.1.getD i zT) = ws at *
          go_wp2_with fail
          refine HW2.mono ?_
          rintro e w5 ⟨⟨oa, cap, rfl, hTs⟩, B5⟩
          have HL2 := HLo oa cap w5 hTs
          have V5 := hVa.keep B5 (Nat.le_refl _)
          have hB5 := hBa.trans (B5.mono hBa.size)
          clear HLo HW2 hTs f0 f1 p0 p0a hVx hVa hBa hB B5
          go_wp2_with fail
          refine HL2.mono ?_
          rintro e w6 ⟨rfl, B6⟩
          have V6 := V5.keep B6 (Nat.le_refl _)
          have hB6 := hB5.trans (B6.mono hB5.size)
          clear HL2 B6 hB5 V5
          go_wp2_with fail
          go_roundw
          case rel => exact ⟨i + 1, _, by omega, by go_num, rfl, HX.out.symm, by rw [ByteArray.size_append]; omega, hB6, V6⟩
          case measure => simp [intOf]; omega
        · obtain rfl : i = n2 := by omega
          rw [HE2.out] at HY
          obtain ⟨L1, hL1⟩ : ∃ L1, L1 = tx (lineT [repT, digsB rep.toNat]) := ⟨_, rfl⟩
          obtain ⟨L2, hL2⟩ : ∃ L2, L2 = tx (lineT [beatT, digsB beat.toNat]) := ⟨_, rfl⟩
          have HF : Hid (tx (printC c) = (y ++ L1) ++ L2) := by
            show _ = _
            rw [HPr.out, HY.out, hL1, hL2, tx_append, tx_append]
            simp
          have hs1 : L1.size ≤ 1011 := by
            rw [hL1, tx_size]
            exact lineT_len (by intro v hv; simp at hv; rcases hv with rfl | rfl; decide; exact hd1) (by simp)
          have hs2 : L2.size ≤ 1011 := by
            rw [hL2, tx_size]
            exact lineT_len (by intro v hv; simp at hv; rcases hv with rfl | rfl; decide; exact hd2) (by simp)
          have HLo1 : ∀ w oa cap, Ts w oa 2 cap [⟨#[114, 101, 112, 101, 97, 116]⟩, tx (digsB rep.toNat)] → Calls Tryz.prog 21 #[.slice oa 2 cap] w fun e w' => e = .returned (.string L1) ∧ Below w.heap.size w w' := fun w oa cap h => by
            rw [hL1]
            exact lineOf_c [repT, digsB rep.toNat] oa 2 cap w h (by omega) (by omega) (by intro v hv; simp at hv; rcases hv with rfl | rfl; decide; omega)
          have HLo2 : ∀ w oa cap, Ts w oa 2 cap [⟨#[98, 101, 97, 116]⟩, tx (digsB beat.toNat)] → Calls Tryz.prog 21 #[.slice oa 2 cap] w fun e w' => e = .returned (.string L2) ∧ Below w.heap.size w w' := fun w oa cap h => by
            rw [hL2]
            exact lineOf_c [beatT, digsB beat.toNat] oa 2 cap w h (by omega) (by omega) (by intro v hv; simp at hv; rcases hv with rfl | rfl; decide; omega)
          have HI1 := itoa_any rep ht1 wr (hT.below hB (Nat.le_refl _))
          have HI2 := fun wx (B : Below w.heap.size w wx) => itoa_any beat ht2 wx (hT.below B (Nat.le_refl _))
          generalize tx (digsB rep.toNat) = t1 at *
          generalize tx (digsB beat.toNat) = t2 at *
          clear HPr HY hL1 hL2 hd1 hd2 ht1 ht2 h1 h2 HR2 HTr HLa HE2
          have p2 : wr.cell? ⟨A, 2, none⟩ = some (.int .i64 rep) := hVx.cell 2
          go_wp2_with fail
          refine HI1.mono ?_
          rintro e w5 ⟨rfl, B5⟩
          have hB5 := hB.trans (B5.mono hB.size)
          have V5 := (hVx.keep B5 (Nat.le_refl _)).alloc (.cells #[.string ⟨#[114, 101, 112, 101, 97, 116]⟩, .string t1] 9)
          have hB5a := hB5.alloc hB5.size (.cells #[.string ⟨#[114, 101, 112, 101, 97, 116]⟩, .string t1] 9)
          have HL1 := HLo1 _ _ _ (ts_two w5 ⟨#[114, 101, 112, 101, 97, 116]⟩ t1)
          clear HI1 HLo1 p2 hVx hB B5 hB5
          go_wp2_with fail
          refine HL1.mono ?_
          rintro e w6 ⟨rfl, B6⟩
          have V6 := V5.keep B6 (Nat.le_refl _)
          have hB6 := hB5a.trans (B6.mono hB5a.size)
          have HI3 := HI2 _ hB6
          have p3 : w6.cell? ⟨A, 3, none⟩ = some (.int .i64 beat) := V6.cell 3
          have hys2 : (y ++ L1).size ≤ 20000 := by rw [ByteArray.size_append]; omega
          clear HL1 HI2 V5 hB5a B6
          go_wp2_with fail
          refine HI3.mono ?_
          rintro e w7 ⟨rfl, B7⟩
          have hB7 := hB6.trans (B7.mono hB6.size)
          have hB7a := hB7.alloc hB7.size (.cells #[.string ⟨#[98, 101, 97, 116]⟩, .string t2] 9)
          have HL2 := HLo2 _ _ _ (ts_two w7 ⟨#[98, 101, 97, 116]⟩ t2)
          clear HI3 HLo2 p3 V6 B7 hB7 hB6
          go_wp2_with fail
          refine HL2.mono ?_
          rintro e w8 ⟨rfl, B8⟩
          have hB8 := hB7a.trans (B8.mono hB7a.size)
          clear HL2 B8 hB7a
          go_wp2_with fail
          go_ret2
          exact ⟨retSE HF.out.symm, hB8⟩
theorem print_any (c : CfgL) (o1 : Option Addr) (n1 c1 : Nat) (o2 : Option Addr) (n2 c2 : Nat) (w : World) (h1 : Rs w o1 n1 c1 c.1) (h2 : Qs w o2 n2 c2 c.2.1) (hn : n1 ≤ 1000000) (hm : n2 ≤ 1000000)
    (hb : ∀ i, i < c.2.1.length → (c.2.1.getD i zT).1.length ≤ 1000000 ∧ (c.2.1.getD i zT).2.length ≤ 1000000) (hT : Tabs w) :
    Calls Tryz.prog 11 #[.agg (cfgV (.slice o1 n1 c1) (.slice o2 n2 c2) c.2.2.1 c.2.2.2)] w fun e w' => e = .returned (.tuple #[.string (if cfgR c = true then tx (printC c) else ⟨#[]⟩), .int .i64 (if cfgR c = true then 0 else 1)]) ∧ Below w.heap.size w w' := by
  cases hr : cfgR c with
  | true => exact print_yes c o1 n1 c1 o2 n2 c2 w h1 h2 hr hT
  | false => exact print_no c o1 n1 c1 o2 n2 c2 w h1 h2 hn hm hb hr
end Go.Proofs.YtbihaoibmkdfjaaGreatDoor
