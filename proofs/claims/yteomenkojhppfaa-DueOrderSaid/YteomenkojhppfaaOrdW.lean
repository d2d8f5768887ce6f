/-
  DueOrder, walked.
-/
import Derived.Test.YteomenkojhppfaaOrdA
import Derived.Deep.CutBlock
namespace Go.Proofs.Yteomenkojhppfaa
open Go.RowKit
set_option linter.unusedVariables false

namespace dorder
theorem map_getD (L : List D2) (k : Nat) (hk : k < L.length) : (L.map modD).getD k (0, 0) = modD (L.getD k (0, 0)) := by
  rw [getD_d _ _ (by simpa using hk), getD_d _ _ hk, List.getElem_map]
set_option maxRecDepth 100000 in
set_option maxHeartbeats 4000000 in
theorem walk (oa : Option Addr) (n cap : Nat) (l0 : List D2) (turn : Int) (w : World) (h0 : Ds w oa n cap l0) (hc : cap ≤ maxLen) :
    Calls Try.prog 4 #[.slice oa n cap, .int .i64 turn] w fun e w' => e = .returned (.bool true) ∧ Below w.heap.size w w' := by
  have hr0 := h0.room
  have hcm : (cap : Int) ≤ 9223372036854775807 := by unfold maxLen at hc; omega
  have hm : min (n : Int) 60 = ((min n 60 : Nat) : Int) := by omega
  have hmn : min n 60 ≤ n := Nat.min_le_left _ _
  have hm60 : min n 60 ≤ 60 := Nat.min_le_right _ _
  have hL := h0.take (i := min n 60) hmn
  have eL : l0.take (min n 60) = l0.take 60 := by rw [← h0.len, List.take_eq_take_iff]; omega
  rw [eL] at hL
  have hsm := small_mod l0
  have hLl := hL.len
  generalize min n 60 = m at *
  generalize l0.take 60 = L at *
  have hSl : (L.map modD).length = m := by rw [List.length_map]; exact hLl
  have hSa := fun k hk => map_getD L k hk
  generalize L.map modD = S at *
  have hmc : (m : Int) ≤ (n : Int) := by omega
  have hmc2 : m ≤ cap := by omega
  clear eL h0
  go_enter Try.func4, Try.ntmps4
  go_upto_block 0 with fail
  go_cut [5] (fun s5 wx => ∃ oS cS, s5 = .slice oS m cS ∧ Ds wx oS m cS S ∧ (∀ ad, oS = some ad → ad.block < wx.heap.size) ∧ Below w.heap.size w wx)
  case first =>
    go_wp2_with fail
    go_loopw [5, 7, 33] (fun s5 _ s33 wr => ∃ (k : Nat) (v : Value), k ≤ m ∧ v = s5 ∧ s33 = .int .i64 k ∧ wr.ownsRow w.heap.size 24 2 v k (cellsD (S.take k)) ∧ Below w.heap.size w wr) (fun _ _ s33 _ => m - (intOf s33).toNat)
    case atStart => exact ⟨0, _, Nat.zero_le _, rfl, rfl, World.ownsRow_nil _ _ _ _, Below.refl _ _⟩
    case round =>
      obtain ⟨k, v, hk, rfl, rfl, hown, hB⟩ := hrel
      by_cases hlt : k < m
      · obtain ⟨g, o, rfl, c0, c1⟩ := (hL.below hB (Nat.le_refl _)).cell k hlt
        have HA := Lib.hid (takeD_next S k (by omega))
        have hx := hSa k (by omega)
        rw [hx] at HA
        generalize L.getD k (0, 0) = x at *
        obtain ⟨a, i⟩ := x
        dsimp only at c0 c1
        have ha0 : (wr.alloc (.cells #[.int .i64 a, .int .i64 i] 24)).cell? ⟨wr.heap.size, 0, none⟩ = some (.int .i64 a) := by simp
        have ha1 : (wr.alloc (.cells #[.int .i64 a, .int .i64 i] 24)).cell? ⟨wr.heap.size, 1, none⟩ = some (.int .i64 i) := by simp
        have hsa : (wr.alloc (.cells #[.int .i64 a, .int .i64 i] 24)).heap.size = wr.heap.size + 1 := by simp
        have own2 := (hown.alloc (.cells #[.int .i64 a, .int .i64 i] 24)).alloc (.cells #[.int .i64 (modD (a, i)).1, .int .i64 (modD (a, i)).2] 24)
        have hone := Ds.one (wr.alloc (.cells #[.int .i64 a, .int .i64 i] 24)) (modD (a, i))
        have B2 : Below w.heap.size w ((wr.alloc (.cells #[.int .i64 a, .int .i64 i] 24)).alloc (.cells #[.int .i64 (modD (a, i)).1, .int .i64 (modD (a, i)).2] 24)) := (hB.alloc hB.size _).alloc (by have := hB.size; simp; omega) _
        have hs2 : w.heap.size ≤ ((wr.alloc (.cells #[.int .i64 a, .int .i64 i] 24)).alloc (.cells #[.int .i64 (modD (a, i)).1, .int .i64 (modD (a, i)).2] 24)).heap.size := B2.size
        rw [hsa] at hone
        clear hx hSa hown hL hB hsm
        go_wp2_with (at_builtin; refine wpList_append_ds _ rfl (.tmp 37) (.tmp 46) rfl w.heap.size rfl own2 rfl hone (by omega) hs2 ?_; intro v3 w3 own3 hg3)
        change World.grownBy _ w3 v.ownBlock at hg3
        refine ⟨⟨k + 1, _, by omega, rfl, by go_num, ?_, B2.grown hg3 hs2 (fun r e => (own2.lt r e).1)⟩, by simp [intOf]; omega⟩
        rw [HA.out, cellsD_append]
        exact own3
      · obtain rfl : k = m := by omega
        rw [List.take_of_length_le (by omega)] at hown
        obtain ⟨oS, cS, rfl, hD, hmS⟩ := Ds.of_own hSl hown
        have hlt := hown.lt
        go_wp2_with fail
        go_meet
        case rel => exact ⟨_, _, rfl, hD, fun ad e => (hlt ad.block (by rw [e]; rfl)).2, hB⟩
  case rest =>
    obtain ⟨oS, cS, rfl, hS, hfS, hB⟩ := hcut
    clear hL hSa hLl hmc hmc2 hm hr0 hcm
    generalize wc = w1 at *
    have hwO := hB.size
    have hT0 := two_new' w1 (.slice none 0 0) (.slice none 0 0)
    have hS1 := hS.below ((Below.refl w1.heap.size w1).alloc (Nat.le_refl _) (.cells #[.slice none 0 0, .slice none 0 0] 40)) (Nat.le_refl _)
    have hB1 := hB.alloc hB.size (.cells #[.slice none 0 0, .slice none 0 0] 40)
    have hZ := Lib.hid (rfl : sortD S = sortD S)
    have hZl : (sortD S).length = m := by rw [sortD_length]; exact hSl
    have hZin := sortD_in S
    have hsmZ : SmallD (sortD S) := hsm.sub (by rw [sortD_length]; exact Nat.le_refl _) (fun x hx => mem_sortD.1 hx)
    obtain ⟨T, hTe, hT59⟩ := turn_bounds turn
    have hsr : SmallD (rotD T S) := hsm.sub (by rw [rotD_length]; exact Nat.le_refl _) (fun x hx => (rotD_perm T S).mem_iff.1 hx)
    have hZp := Lib.hid (sortD_perm S)
    generalize hZq : sortD S = Z at *
    clear hZ
    have hZ := Lib.hid hZq
    clear hZq hS hB
    go_upto_block 2 with fail
    generalize w1.alloc (.cells #[.slice none 0 0, .slice none 0 0] 40) = w2 at *
    generalize w1.heap.size = O at *
    clear w1
    go_cut [9, 10, 11, 12, 13, 14, 15, 16, 17, 18, 19, 20] (fun _ _ _ _ _ _ _ _ _ _ _ _ wx => Outs wx O m Z 2 ∧ Ds wx oS m cS S ∧ Below w.heap.size w wx)
    case first =>
      go_wp2_with fail
      go_loopw [9, 10, 11, 12, 13, 14, 15, 16, 17, 18, 19, 20, 49] (fun _ _ _ _ _ _ _ _ _ _ _ _ s49 wr => ∃ (k : Nat) (z : Int), k ≤ 2 ∧ z = (k : Int) ∧ s49 = .int .i64 z ∧ Outs wr O m Z k ∧ Ds wr oS m cS S ∧ Below w.heap.size w wr) (fun _ _ _ _ _ _ _ _ _ _ _ _ s49 _ => 2 - (intOf s49).toNat)
      case atStart => exact ⟨0, 0, by omega, rfl, rfl, hT0, hS1, hB1⟩
      case round =>
        obtain ⟨k, z, hk, hz, rfl, hOut, hSk, hBk⟩ := hrel
        clear hT0 hS1 hB1
        rcases (show k = 0 ∨ k = 1 ∨ k = 2 by omega) with rfl | rfl | rfl
        · obtain rfl : z = 0 := by omega
          clear hz hk
          have hT0 : Two wr O (.slice none 0 0) (.slice none 0 0) := hOut
          have hS0 := hSk
          have hB0 := hBk
          clear hOut hSk hBk hTe hT59 hsr
          generalize wr = wj0 at *
          go_upto_block 4 with fail
          go_cut [10] (fun s10 wx => ∃ oK cK, s10 = .slice oK m cK ∧ Ds wx oK m cK S ∧ Below wj0.heap.size wj0 wx)
          case first =>
            go_wp2_with fail
            go_loopw [10, 11, 12, 13, 14, 54] (fun s10 _ _ _ _ s54 wr => ∃ (i : Nat) (oK : Option Addr) (cK : Nat), i ≤ m ∧ s54 = .int .i64 i ∧ s10 = .slice oK i cK ∧ Ds wr oK i cK (S.take i) ∧ Below wj0.heap.size wj0 wr) (fun _ _ _ _ _ s54 _ => m - (intOf s54).toNat)
            case atStart => exact ⟨0, none, 0, Nat.zero_le _, rfl, rfl, Ds.nil _ _ _, Below.refl _ _⟩
            case round =>
              obtain ⟨i, oK, cK, hi, rfl, rfl, hK, hBr⟩ := hrel
              by_cases hlt : i < m
              · have hSr := hS0.below hBr (Nat.le_refl _)
                have hrS := hSr.room
                obtain ⟨g, o, rfl, p0, p1⟩ := hSr.cell i hlt
                have HA := Lib.hid (takeD_next S i (by omega))
                have HT := Lib.hid (hsm.time (getD_mem (S := S) (i := i) (by omega)))
                generalize S.getD i (0, 0) = x at *
                obtain ⟨a, ia⟩ := x
                dsimp only at p0 p1
                have hKd := (hsm.take i).right
                have hK1 := hK.below ((Below.refl wr.heap.size wr).alloc (Nat.le_refl _) (.cells #[.int .i64 a, .int .i64 ia] 24)) (Nat.le_refl _)
                have hBa := hBr.alloc hBr.size (.cells #[.int .i64 a, .int .i64 ia] 24)
                have hP := push_yes oK i cK (S.take i) (a, ia) (wr.alloc (.cells #[.int .i64 a, .int .i64 ia] 24)) hK1 (by omega) hKd HT.out
                clear hK hSr hKd hsm hS0 hT0 hB0
                go_wp2_with fail
                refine hP.mono ?_
                rintro e w5 ⟨⟨oN, cN, rfl, hN, _⟩, B5⟩
                have B6 := hBa.trans (B5.mono hBa.size)
                go_wp2_with fail
                go_roundw
                case rel => exact ⟨i + 1, oN, cN, by omega, by go_num, rfl, (by rw [HA.out]; exact hN), B6⟩
                case measure => simp [intOf]; omega
              · obtain rfl : i = m := by omega
                rw [List.take_of_length_le (by omega)] at hK
                go_wp2_with fail
                go_meet
                case rel => exact ⟨_, _, rfl, hK, hBr⟩
          case rest =>
            obtain ⟨oK0, cK0, rfl, hK0, hBr0⟩ := hcut
            generalize wc = wq0 at *
            have hT0q := two_below hT0 hBr0
            have hS0q := hS0.below hBr0 (Nat.le_refl _)
            have hB0q := hB0.trans (hBr0.mono hB0.size)
            have hO0q : O < wq0.heap.size := two_lt hT0q
            clear hT0 hS0 hB0 hBr0
            go_upto_block 6 with fail
            go_cut [10] (fun s10 wx => ∃ oK cK o1 c1, s10 = .slice oK 0 cK ∧ Two wx O (.slice o1 m c1) (.slice none 0 0) ∧ Ds wx o1 m c1 Z ∧ (∀ ad, o1 = some ad → wq0.heap.size ≤ ad.block ∧ ad.block < wx.heap.size) ∧ wq0.grownBy wx (some O))
            case first =>
              have hsR : sortD S = Z := hZ
              go_wp2_with fail
              go_loopw [10, 15, 16, 17, 94] (fun s10 _ _ _ s94 wr => ∃ (i nK : Nat) (oK : Option Addr) (cK : Nat) (KL : List D2) (v : Value), nK + i = m ∧ s94 = .int .i64 i ∧ s10 = .slice oK nK cK ∧ Ds wr oK nK cK KL ∧ sortD KL = Z.drop i ∧ SmallD KL ∧ Two wr O v (.slice none 0 0) ∧ wr.ownsRow wq0.heap.size 24 2 v i (cellsD (Z.take i)) ∧ wq0.grownBy wr (some O)) (fun _ _ _ _ s94 _ => m - (intOf s94).toNat)
              case atStart => exact ⟨0, m, _, _, S, _, by omega, rfl, rfl, hK0, hsR, hsm, hT0q, World.ownsRow_nil _ _ _ _, kc_refl _ _⟩
              case round =>
                obtain ⟨i, nK, oK, cK, KL, v, hni, rfl, rfl, hK, hsK, hsmK, hTr, hown, hgr⟩ := hrel
                have hOr := two_lt hTr
                have hzr := hgr.size
                have hlor := hown.lt
                by_cases hlt : i < m
                · obtain ⟨k1, rfl⟩ : ∃ k1, nK = k1 + 1 := ⟨nK - 1, by omega⟩
                  have hdr : Z.drop i = Z.getD i (0, 0) :: Z.drop (i + 1) := by rw [getD_d Z i (by omega)]; exact List.drop_eq_getElem_cons (by omega)
                  rw [hdr] at hsK
                  have HA := Lib.hid (takeD_next Z i (by omega))
                  have hsm2 : SmallD (Z.drop (i + 1)) := hsmZ.sub (by rw [List.length_drop]; omega) (fun x hx => List.mem_of_mem_drop hx)
                  have hin2 : Hid (sortD (Z.drop (i + 1)) = Z.drop (i + 1)) := sortD_of_in (hZin.drop)
                  have hP := pop_yes oK (k1 + 1) cK KL wr hK (by omega) (by omega) hsmK.right _ _ hsK
                  rw [Nat.add_sub_cancel] at hP
                  have hlr : (Z.drop (i + 1)).length = k1 := by rw [List.length_drop]; omega
                  generalize Z.getD i (0, 0) = x at *
                  generalize hrq : Z.drop (i + 1) = r at *
                  have hrr := Lib.hid hrq
                  clear hrq
                  obtain ⟨a, ia⟩ := x
                  dsimp only at hP
                  clear hK hsK hdr hsmK hsm  hS0q hT0q hsmZ hZin
                  go_wp2_with fail
                  refine hP.mono ?_
                  rintro e w5 ⟨⟨oN, cN, rfl, hN, _, hfN⟩, B5⟩
                  have B5x : Below wr.heap.size wr (w5.alloc (.cells #[.int .i64 a, .int .i64 ia] 24)) := B5.alloc B5.size _
                  have hN5 := hN.below ((Below.refl w5.heap.size w5).alloc (Nat.le_refl _) (.cells #[.int .i64 a, .int .i64 ia] 24)) (Nat.le_refl _)
                  have hT5 := two_below hTr B5x
                  have own5 := own_below hown B5x
                  have hg5 := kc_below hgr B5x
                  have q0 : (w5.alloc (.cells #[.int .i64 a, .int .i64 ia] 24)).cell? ⟨w5.heap.size, 0, none⟩ = some (.int .i64 a) := by simp
                  have q1 : (w5.alloc (.cells #[.int .i64 a, .int .i64 ia] 24)).cell? ⟨w5.heap.size, 1, none⟩ = some (.int .i64 ia) := by simp
                  have z5 := B5x.size
                  clear hP hN B5 B5x hTr hown hgr
                  go_wp2_with fail
                  generalize w5.alloc (.cells #[.int .i64 a, .int .i64 ia] 24) = w6 at *
                  generalize w5.heap.size = Bx at *
                  clear w5
                  obtain ⟨t0, t1, tf0, tf1⟩ := two_cells hT5
                  have ownD : (w6.alloc (.cells #[.int .i64 a, .int .i64 ia] 24)).drew.ownsRow wq0.heap.size 24 2 v i (cellsD (Z.take i)) := own5.alloc (.cells #[.int .i64 a, .int .i64 ia] 24)
                  have oneD := (Ds.one w6 (a, ia)).drew
                  have zD : wq0.heap.size ≤ (w6.alloc (.cells #[.int .i64 a, .int .i64 ia] 24)).drew.heap.size := by
                    show _ ≤ (w6.alloc _).heap.size
                    simp
                    omega
                  have hTD : Two (w6.alloc (.cells #[.int .i64 a, .int .i64 ia] 24)).drew O v (.slice none 0 0) := two_below hT5 (((Below.refl w6.heap.size w6).alloc (Nat.le_refl _) _).drew)
                  have hND := hN5.below (((Below.refl w6.heap.size w6).alloc (Nat.le_refl _) (.cells #[.int .i64 a, .int .i64 ia] 24)).drew) (Nat.le_refl _)
                  have hgD := kc_below hg5 (((Below.refl w6.heap.size w6).alloc (Nat.le_refl _) (.cells #[.int .i64 a, .int .i64 ia] 24)).drew)
                  have BA := (Below.refl w6.heap.size w6).alloc (Nat.le_refl _) (.cells #[.int .i64 a, .int .i64 ia] 24)
                  obtain ⟨v0, v1, _, _⟩ := two_cells (two_below hT5 BA)
                  have q0A := (BA.cell (p := ⟨Bx, 0, none⟩) (World.block_lt_of_cell? w6 _ q0)).trans q0
                  have q1A := (BA.cell (p := ⟨Bx, 1, none⟩) (World.block_lt_of_cell? w6 _ q1)).trans q1
                  clear BA
                  have hlo := own5.lt
                  go_region_law (first
                    | (refine step_append_ds _ (by rfl) (.tmp 116) (.tmp 118) (by rfl) wq0.heap.size (by rfl) ownD (by rfl) oneD (by omega) zD ?_; intro v7 w7 own7 hg7; change World.grownBy _ w7 v.ownBlock at hg7; obtain ⟨g7, c7, rfl⟩ := own_slice own7; have hT7 := two_kept hTD hg7 (fun e => by have := (hlo O e.symm).1; omega); obtain ⟨u0, u1, uf0, uf1⟩ := two_cells hT7))
                  all_goals
                    go_wp2_with fail
                    have hlo7 := own7.lt g7 rfl
                    have hN7 := hND.kept2 hg7 (fun ad e h2 e2 => by have h3 := hfN ad e; have h4 := (hlor ad.block e2).2; omega)
                    have hN8 := hN7.kept2 (kc_set w7 O 0 (.slice (some ⟨g7, 0, none⟩) (i + 1) c7)) (fun ad e h2 e2 => by have h3 := hfN ad e; cases e2; omega)
                    have own8 := own7.kept (kc_set w7 O 0 (.slice (some ⟨g7, 0, none⟩) (i + 1) c7)) (.inr (fun e => by have h3 := (own7.lt _ e).1; omega))
                    have hg8 := kc_trans (kc_trans hgD hg7 (fun r e => .inl (hlo r e).1)) (kc_set w7 O 0 (.slice (some ⟨g7, 0, none⟩) (i + 1) c7)) (fun r e => by cases e; exact .inr rfl)
                    have hT8 := two_set0 hT7 (.slice (some ⟨g7, 0, none⟩) (i + 1) c7)
                    refine ⟨⟨i + 1, k1, oN, cN, r, _, by omega, by go_num, rfl, hN8, hin2.out.trans hrr.out.symm, hsm2, hT8, ?_, hg8⟩, by simp [intOf]; omega⟩
                    rw [HA.out, cellsD_append]
                    exact own8
                · obtain rfl : i = m := by omega
                  obtain rfl : nK = 0 := by omega
                  obtain rfl : KL = [] := List.eq_nil_of_length_eq_zero hK.len
                  rw [List.take_of_length_le (by omega)] at hown
                  obtain ⟨o1, c1, rfl, hD, hm1⟩ := Ds.of_own hZl hown
                  have hlo := hown.lt
                  go_wp2_with fail
                  go_meet
                  case rel => exact ⟨_, _, o1, c1, rfl, hTr, hD, fun ad e => hlo ad.block (by rw [e]; rfl), hgr⟩
            case rest =>
              obtain ⟨oE, cE, o0, c0, rfl, hTe, hDe, hfe, hge⟩ := hcut
              generalize wc = we at *
              have hP := pop_no oE 0 cE [] we (Ds.nil _ _ _) (by omega) true rfl (fun _ => rfl) 4 rfl
              have hSe := hS0q.kept2 hge (fun ad e h2 e2 => by cases e2; have := hfS ad e; omega)
              have hBe := hB0q.trans (below_of_kc hge hB0q.size hwO)
              clear hT0q hS0q hB0q hge
              go_wp2_with fail
              refine hP.mono ?_
              rintro e w5 ⟨rfl, B5⟩
              have B5x : Below we.heap.size we (w5.alloc (.cells #[.int .i64 0, .int .i64 0] 24)) := B5.alloc B5.size _
              have hT5 := two_below hTe B5x
              have hS5 := hSe.below B5x (Nat.le_refl _)
              have hD5 := hDe.below B5x (Nat.le_refl _)
              have hB5 := hBe.trans (B5x.mono hBe.size)
              clear hP
              go_wp2_with fail
              refine ⟨⟨1, 1, by omega, rfl, by go_num, ⟨_, _, hT5, hD5, fun ad e => by have := hfe ad e; omega⟩, hS5, hB5⟩, by simp [intOf]⟩
        · obtain rfl : z = 1 := by omega
          clear hz hk
          obtain ⟨o0, c0, hT1, hZ0, hf0⟩ := hOut
          have hS1 := hSk
          have hB1 := hBk
          clear hSk hBk
          generalize wr = wj1 at *
          go_upto_block 4 with fail
          go_cut [10] (fun s10 wx => ∃ oK cK, s10 = .slice oK m cK ∧ Ds wx oK m cK (rotD T S) ∧ Below wj1.heap.size wj1 wx)
          case first =>
            go_wp2_with fail
            go_loopw [10, 11, 12, 13, 14, 54] (fun s10 _ _ _ _ s54 wr => ∃ (i : Nat) (oK : Option Addr) (cK : Nat), i ≤ m ∧ s54 = .int .i64 i ∧ s10 = .slice oK i cK ∧ Ds wr oK i cK ((rotD T S).take i) ∧ Below wj1.heap.size wj1 wr) (fun _ _ _ _ _ s54 _ => m - (intOf s54).toNat)
            case atStart => exact ⟨0, none, 0, Nat.zero_le _, rfl, rfl, Ds.nil _ _ _, Below.refl _ _⟩
            case round =>
              obtain ⟨i, oK, cK, hi, rfl, rfl, hK, hBr⟩ := hrel
              by_cases hlt : i < m
              · have hSr := hS1.below hBr (Nat.le_refl _)
                have hrS := hSr.room
                obtain ⟨g, o, rfl, p0, p1⟩ := hSr.cell i hlt
                have hbox := hSr.below ((Below.refl wr.heap.size wr).alloc (Nat.le_refl _) (.cells #[.int .i64 (S.getD i (0, 0)).1, .int .i64 (S.getD i (0, 0)).2] 24)) (Nat.le_refl _)
                have hqm : (i + T) % m < m := Nat.mod_lt _ (by omega)
                obtain ⟨g2, o2, e2, r0, r1⟩ := hbox.cell ((i + T) % m) hqm
                cases e2
                have HA := Lib.hid (takeD_next (rotD T S) i (by rw [rotD_length]; omega))
                have HX := rotD_at T S i (by omega)
                rw [hSl] at HX
                rw [HX] at HA
                have HT := Lib.hid (hsm.time (getD_mem (S := S) (i := (i + T) % m) (by omega)))
                have hq1 : ((i : Int) + (T : Int)).tmod (m : Int) = (((i + T) % m : Nat) : Int) := by rw [Int.tmod_eq_emod_of_nonneg (by omega), Int.natCast_emod, Int.natCast_add]
                have hq2 : ((i : Int) + (T : Int)) % (m : Int) = (((i + T) % m : Nat) : Int) := by rw [Int.natCast_emod, Int.natCast_add]
                have hm0 : ((m : Int) == 0) = false := by simp; omega
                have hqz : (((i + T) % m : Nat) : Int) < (m : Int) := by omega
                clear HX hbox
                generalize (i + T) % m = q at *
                generalize S.getD q (0, 0) = y at *
                obtain ⟨b, ib⟩ := y
                dsimp only at r0 r1
                generalize S.getD i (0, 0) = x at *
                obtain ⟨a, ia⟩ := x
                dsimp only at p0 p1
                have hKd := (hsr.take i).right
                have hK1 := hK.below ((Below.refl wr.heap.size wr).alloc (Nat.le_refl _) (.cells #[.int .i64 b, .int .i64 ib] 24)) (Nat.le_refl _)
                have hBa := hBr.alloc hBr.size (.cells #[.int .i64 b, .int .i64 ib] 24)
                have hP := push_yes oK i cK ((rotD T S).take i) (b, ib) (wr.alloc (.cells #[.int .i64 b, .int .i64 ib] 24)) hK1 (by omega) hKd HT.out
                clear hK hSr hKd hsm hsr hS1 hT1 hB1
                go_wp2_with fail
                refine hP.mono ?_
                rintro e w5 ⟨⟨oN, cN, rfl, hN, _⟩, B5⟩
                have B6 := hBa.trans (B5.mono hBa.size)
                go_wp2_with fail
                go_roundw
                case rel => exact ⟨i + 1, oN, cN, by omega, by go_num, rfl, (by rw [HA.out]; exact hN), B6⟩
                case measure => simp [intOf]; omega
              · obtain rfl : i = m := by omega
                rw [List.take_of_length_le (by rw [rotD_length]; omega)] at hK
                go_wp2_with fail
                go_meet
                case rel => exact ⟨_, _, rfl, hK, hBr⟩
          case rest =>
            obtain ⟨oK1, cK1, rfl, hK1, hBr1⟩ := hcut
            generalize wc = wq1 at *
            have hT1q := two_below hT1 hBr1
            have hS1q := hS1.below hBr1 (Nat.le_refl _)
            have hB1q := hB1.trans (hBr1.mono hB1.size)
            have hO1q : O < wq1.heap.size := two_lt hT1q
            have hZ1q := hZ0.below hBr1 (Nat.le_refl _)
            clear hT1 hS1 hB1 hBr1 hZ0
            go_upto_block 6 with fail
            go_cut [10] (fun s10 wx => ∃ oK cK o1 c1, s10 = .slice oK 0 cK ∧ Two wx O (.slice o0 m c0) (.slice o1 m c1) ∧ Ds wx o1 m c1 Z ∧ (∀ ad, o1 = some ad → wq1.heap.size ≤ ad.block ∧ ad.block < wx.heap.size) ∧ wq1.grownBy wx (some O))
            case first =>
              have hsR : sortD (rotD T S) = Z := (sortD_of_perm (rotD_perm T S)).trans hZ
              go_wp2_with fail
              go_loopw [10, 15, 16, 17, 94] (fun s10 _ _ _ s94 wr => ∃ (i nK : Nat) (oK : Option Addr) (cK : Nat) (KL : List D2) (v : Value), nK + i = m ∧ s94 = .int .i64 i ∧ s10 = .slice oK nK cK ∧ Ds wr oK nK cK KL ∧ sortD KL = Z.drop i ∧ SmallD KL ∧ Two wr O (.slice o0 m c0) v ∧ wr.ownsRow wq1.heap.size 24 2 v i (cellsD (Z.take i)) ∧ wq1.grownBy wr (some O)) (fun _ _ _ _ s94 _ => m - (intOf s94).toNat)
              case atStart => exact ⟨0, m, _, _, (rotD T S), _, by omega, rfl, rfl, hK1, hsR, hsr, hT1q, World.ownsRow_nil _ _ _ _, kc_refl _ _⟩
              case round =>
                obtain ⟨i, nK, oK, cK, KL, v, hni, rfl, rfl, hK, hsK, hsmK, hTr, hown, hgr⟩ := hrel
                have hOr := two_lt hTr
                have hzr := hgr.size
                have hlor := hown.lt
                by_cases hlt : i < m
                · obtain ⟨k1, rfl⟩ : ∃ k1, nK = k1 + 1 := ⟨nK - 1, by omega⟩
                  have hdr : Z.drop i = Z.getD i (0, 0) :: Z.drop (i + 1) := by rw [getD_d Z i (by omega)]; exact List.drop_eq_getElem_cons (by omega)
                  rw [hdr] at hsK
                  have HA := Lib.hid (takeD_next Z i (by omega))
                  have hsm2 : SmallD (Z.drop (i + 1)) := hsmZ.sub (by rw [List.length_drop]; omega) (fun x hx => List.mem_of_mem_drop hx)
                  have hin2 : Hid (sortD (Z.drop (i + 1)) = Z.drop (i + 1)) := sortD_of_in (hZin.drop)
                  have hP := pop_yes oK (k1 + 1) cK KL wr hK (by omega) (by omega) hsmK.right _ _ hsK
                  rw [Nat.add_sub_cancel] at hP
                  have hlr : (Z.drop (i + 1)).length = k1 := by rw [List.length_drop]; omega
                  generalize Z.getD i (0, 0) = x at *
                  generalize hrq : Z.drop (i + 1) = r at *
                  have hrr := Lib.hid hrq
                  clear hrq
                  obtain ⟨a, ia⟩ := x
                  dsimp only at hP
                  clear hK hsK hdr hsmK hsm hsr hS1q hT1q hsmZ hZin
                  go_wp2_with fail
                  refine hP.mono ?_
                  rintro e w5 ⟨⟨oN, cN, rfl, hN, _, hfN⟩, B5⟩
                  have B5x : Below wr.heap.size wr (w5.alloc (.cells #[.int .i64 a, .int .i64 ia] 24)) := B5.alloc B5.size _
                  have hN5 := hN.below ((Below.refl w5.heap.size w5).alloc (Nat.le_refl _) (.cells #[.int .i64 a, .int .i64 ia] 24)) (Nat.le_refl _)
                  have hT5 := two_below hTr B5x
                  have own5 := own_below hown B5x
                  have hg5 := kc_below hgr B5x
                  have q0 : (w5.alloc (.cells #[.int .i64 a, .int .i64 ia] 24)).cell? ⟨w5.heap.size, 0, none⟩ = some (.int .i64 a) := by simp
                  have q1 : (w5.alloc (.cells #[.int .i64 a, .int .i64 ia] 24)).cell? ⟨w5.heap.size, 1, none⟩ = some (.int .i64 ia) := by simp
                  have z5 := B5x.size
                  clear hP hN B5 B5x hTr hown hgr
                  go_wp2_with fail
                  generalize w5.alloc (.cells #[.int .i64 a, .int .i64 ia] 24) = w6 at *
                  generalize w5.heap.size = Bx at *
                  clear w5
                  obtain ⟨t0, t1, tf0, tf1⟩ := two_cells hT5
                  have ownD : (w6.alloc (.cells #[.int .i64 a, .int .i64 ia] 24)).drew.ownsRow wq1.heap.size 24 2 v i (cellsD (Z.take i)) := own5.alloc (.cells #[.int .i64 a, .int .i64 ia] 24)
                  have oneD := (Ds.one w6 (a, ia)).drew
                  have zD : wq1.heap.size ≤ (w6.alloc (.cells #[.int .i64 a, .int .i64 ia] 24)).drew.heap.size := by
                    show _ ≤ (w6.alloc _).heap.size
                    simp
                    omega
                  have hTD : Two (w6.alloc (.cells #[.int .i64 a, .int .i64 ia] 24)).drew O (.slice o0 m c0) v := two_below hT5 (((Below.refl w6.heap.size w6).alloc (Nat.le_refl _) _).drew)
                  have hND := hN5.below (((Below.refl w6.heap.size w6).alloc (Nat.le_refl _) (.cells #[.int .i64 a, .int .i64 ia] 24)).drew) (Nat.le_refl _)
                  have hgD := kc_below hg5 (((Below.refl w6.heap.size w6).alloc (Nat.le_refl _) (.cells #[.int .i64 a, .int .i64 ia] 24)).drew)
                  have BA := (Below.refl w6.heap.size w6).alloc (Nat.le_refl _) (.cells #[.int .i64 a, .int .i64 ia] 24)
                  obtain ⟨v0, v1, _, _⟩ := two_cells (two_below hT5 BA)
                  have q0A := (BA.cell (p := ⟨Bx, 0, none⟩) (World.block_lt_of_cell? w6 _ q0)).trans q0
                  have q1A := (BA.cell (p := ⟨Bx, 1, none⟩) (World.block_lt_of_cell? w6 _ q1)).trans q1
                  clear BA
                  have hlo := own5.lt
                  go_region_law (first
                    | (refine step_append_ds _ (by rfl) (.tmp 116) (.tmp 118) (by rfl) wq1.heap.size (by rfl) ownD (by rfl) oneD (by omega) zD ?_; intro v7 w7 own7 hg7; change World.grownBy _ w7 v.ownBlock at hg7; obtain ⟨g7, c7, rfl⟩ := own_slice own7; have hT7 := two_kept hTD hg7 (fun e => by have := (hlo O e.symm).1; omega); obtain ⟨u0, u1, uf0, uf1⟩ := two_cells hT7))
                  all_goals
                    go_wp2_with fail
                    have hlo7 := own7.lt g7 rfl
                    have hN7 := hND.kept2 hg7 (fun ad e h2 e2 => by have h3 := hfN ad e; have h4 := (hlor ad.block e2).2; omega)
                    have hN8 := hN7.kept2 (kc_set w7 O 1 (.slice (some ⟨g7, 0, none⟩) (i + 1) c7)) (fun ad e h2 e2 => by have h3 := hfN ad e; cases e2; omega)
                    have own8 := own7.kept (kc_set w7 O 1 (.slice (some ⟨g7, 0, none⟩) (i + 1) c7)) (.inr (fun e => by have h3 := (own7.lt _ e).1; omega))
                    have hg8 := kc_trans (kc_trans hgD hg7 (fun r e => .inl (hlo r e).1)) (kc_set w7 O 1 (.slice (some ⟨g7, 0, none⟩) (i + 1) c7)) (fun r e => by cases e; exact .inr rfl)
                    have hT8 := two_set1 hT7 (.slice (some ⟨g7, 0, none⟩) (i + 1) c7)
                    refine ⟨⟨i + 1, k1, oN, cN, r, _, by omega, by go_num, rfl, hN8, hin2.out.trans hrr.out.symm, hsm2, hT8, ?_, hg8⟩, by simp [intOf]; omega⟩
                    rw [HA.out, cellsD_append]
                    exact own8
                · obtain rfl : i = m := by omega
                  obtain rfl : nK = 0 := by omega
                  obtain rfl : KL = [] := List.eq_nil_of_length_eq_zero hK.len
                  rw [List.take_of_length_le (by omega)] at hown
                  obtain ⟨o1, c1, rfl, hD, hm1⟩ := Ds.of_own hZl hown
                  have hlo := hown.lt
                  go_wp2_with fail
                  go_meet
                  case rel => exact ⟨_, _, o1, c1, rfl, hTr, hD, fun ad e => hlo ad.block (by rw [e]; rfl), hgr⟩
            case rest =>
              obtain ⟨oE, cE, o1, c1, rfl, hTe, hDe, hfe, hge⟩ := hcut
              generalize wc = we at *
              have hP := pop_no oE 0 cE [] we (Ds.nil _ _ _) (by omega) true rfl (fun _ => rfl) 4 rfl
              have hSe := hS1q.kept2 hge (fun ad e h2 e2 => by cases e2; have := hfS ad e; omega)
              have hBe := hB1q.trans (below_of_kc hge hB1q.size hwO)
              have hZe := hZ1q.kept2 hge (fun ad e h2 e2 => by cases e2; have := hf0 ad e; omega)
              clear hT1q hS1q hB1q hge hZ1q
              go_wp2_with fail
              refine hP.mono ?_
              rintro e w5 ⟨rfl, B5⟩
              have B5x : Below we.heap.size we (w5.alloc (.cells #[.int .i64 0, .int .i64 0] 24)) := B5.alloc B5.size _
              have hT5 := two_below hTe B5x
              have hS5 := hSe.below B5x (Nat.le_refl _)
              have hD5 := hDe.below B5x (Nat.le_refl _)
              have hB5 := hBe.trans (B5x.mono hBe.size)
              have hZ5 := hZe.below B5x (Nat.le_refl _)
              clear hP
              go_wp2_with fail
              refine ⟨⟨2, 2, by omega, rfl, by go_num, ⟨_, _, _, _, hT5, hZ5, hD5⟩, hS5, hB5⟩, by simp [intOf]⟩
        · obtain rfl : z = 2 := by omega
          clear hz hk
          go_wp2_with fail
          go_meet
          case rel => exact ⟨hOut, hSk, hBk⟩
    case rest =>
      obtain ⟨⟨o0, c0, o1, c1, hT, hZ0, hZ1⟩, hS, hB⟩ := hcut
      clear hT0 hS1 hB1 hTe hT59 hsr
      generalize wc = wx at *
      have hOx := two_lt hT
      have hHd : ∀ d, Hid (∃ c : Nat, cntD d S = c ∧ cntD d Z = c) := fun d => ⟨_, (cntD_perm d hZp.out).symm, rfl⟩
      have hIn := Lib.hid (fun (i : Nat) (h : i + 1 < Z.length) => inO_next hZin h)
      clear hZ hZp hsm hsmZ hZin
      obtain ⟨t0, t1, tf0, tf1⟩ := two_cells hT
      go_upto_block 8 with fail
      clear t0 t1 tf0 tf1
      go_cut [21, 22, 23, 24, 25, 26] (fun _ _ _ _ _ _ wy => Below wx.heap.size wx wy)
      case first =>
        go_wp2_with fail
        go_loopw [21, 22, 23, 24, 25, 26, 134] (fun _ _ _ _ _ _ s134 wr => ∃ i : Nat, i ≤ m ∧ s134 = .int .i64 i ∧ Below wx.heap.size wx wr) (fun _ _ _ _ _ _ s134 _ => m - (intOf s134).toNat)
        case atStart => exact ⟨0, Nat.zero_le _, rfl, Below.refl _ _⟩
        case round =>
          obtain ⟨i, hi, rfl, hBr⟩ := hrel
          by_cases hlt : i < m
          · have hZr := hZ0.below hBr (Nat.le_refl _)
            have hrZ := hZr.room
            obtain ⟨g, o, rfl, p0, p1⟩ := hZr.cell i hlt
            have HP : Hid (∀ k : Nat, (i : Int) - 1 = (k : Int) → k < m → false = aheadB (Z.getD i (0, 0)) (Z.getD k (0, 0))) := fun k hk hkm => by
              have e : i = k + 1 := by omega
              rw [e]
              exact hIn.out k (by omega)
            generalize Z.getD i (0, 0) = d at *
            obtain ⟨a, ia⟩ := d
            dsimp only at p0 p1
            have BA := (Below.refl wr.heap.size wr).alloc (Nat.le_refl _) (.cells #[.int .i64 a, .int .i64 ia] 24)
            have q0 : (wr.alloc (.cells #[.int .i64 a, .int .i64 ia] 24)).cell? ⟨wr.heap.size, 0, none⟩ = some (.int .i64 a) := by simp
            have q1 : (wr.alloc (.cells #[.int .i64 a, .int .i64 ia] 24)).cell? ⟨wr.heap.size, 1, none⟩ = some (.int .i64 ia) := by simp
            have BB := hBr.alloc hBr.size (.cells #[.int .i64 a, .int .i64 ia] 24)
            have hTb := two_below hT BB
            obtain ⟨t0, t1, tf0, tf1⟩ := two_cells (two_below hT hBr)
            have hZb := hZ0.below BB (Nat.le_refl _)
            have hSb := hS.below BB (Nat.le_refl _)
            clear hT hZ0 hS hZr BA hZ1 hB
            go_wp2_with fail
            clear t0 t1 tf0 tf1 p0 p1 hBr
            generalize wr.alloc (.cells #[.int .i64 a, .int .i64 ia] 24) = wa at *
            generalize wr.heap.size = D at *
            clear wr
            have hDa := World.block_lt_of_cell? wa _ q0
            dsimp only at hDa
            go_cut [150] (fun s150 wy => s150 = .bool false ∧ Below wa.heap.size wa wy)
            case first =>
              obtain ⟨t0, t1, tf0, tf1⟩ := two_cells hTb
              clear hSb
              by_cases hi0 : i = 0
              · have hd : decide ((0 : Int) < (i : Int)) = false := by simp; omega
                clear HP hIn
                go_quiet (fail)
                go_wp2_with fail
                go_meet
                case rel => exact ⟨rfl, below_drewND (Below.refl _ _) _⟩
              · obtain ⟨k, hk⟩ : ∃ k : Nat, (i : Int) - 1 = (k : Int) := ⟨i - 1, by omega⟩
                have hkm : k < m := by omega
                have hpos : (0 : Int) < (i : Int) := by omega
                have hposN : 0 < i := by omega
                have hwk : IntKind.i64.wrap (k : Int) = (k : Int) := IntWalk.i64_in _ (by omega)
                obtain ⟨g', o', e', k0, k1⟩ := hZb.cell k hkm
                cases e'
                have HC := fun W => ahead_is (a, ia) (Z.getD k (0, 0)) false W (HP.out k hk hkm)
                clear HP hIn hZb hTb
                generalize Z.getD k (0, 0) = y at *
                obtain ⟨b, ib⟩ := y
                dsimp only at k0 k1 HC
                have hkm2 : (k : Int) < (m : Int) := by omega
                refine wp_region_still_tail 10 (by kernel_rfl) (by kernel_rfl) ?_
                simp only [List.take_succ_cons, List.take_zero, List.drop_succ_cons, List.drop_zero]
                change wpStill _ _ (World.drew _) _ _ _
                still_step
                still_step
                still_step
                still_step
                still_step
                still_step
                still_step
                still_step
                still_step
                still_step
                refine wpStill_nil ?_
                change wpList _ _ _ _ _ (World.drew _)
                go_wp2_with fail
                refine (HC _).mono ?_
                rintro e wy ⟨rfl, hBy⟩
                have hBz := below_undrewD hBy (Nat.le_refl _)
                clear HC hBy q0 q1 k0 k1
                go_wp2_with fail
                go_meet
                case rel => exact ⟨rfl, hBz⟩
            case rest =>
              obtain ⟨rfl, hB3⟩ := hcut
              clear HP hIn
              have r0 := (hB3.cell (p := ⟨D, 0, none⟩) hDa).trans q0
              have r1 := (hB3.cell (p := ⟨D, 1, none⟩) hDa).trans q1
              clear q0 q1
              have hT3 := two_below hTb hB3
              have hZ3 := hZb.below hB3 (Nat.le_refl _)
              have hS3 := hSb.below hB3 (Nat.le_refl _)
              have BB3 := BB.trans (hB3.mono BB.size)
              have hDc : D < wc.heap.size := by have := hB3.size; omega
              generalize wc = w3 at *
              clear hTb hZb hSb BB hB3 hDa
              clear wa
              obtain ⟨c, hcS, hcZ⟩ := (hHd (a, ia)).out
              have HcS := Lib.hid hcS
              have HcZ := Lib.hid hcZ
              clear hcS hcZ
              go_upto_block 10 with fail
              go_cut [23, 24, 25, 26] (fun s23 s24 _ _ wy => s23 = .int .i64 c ∧ s24 = .int .i64 c ∧ Below w3.heap.size w3 wy)
              case first =>
                go_wp2_with fail
                go_loopw [23, 24, 25, 26, 153] (fun s23 s24 _ _ s153 wr => ∃ k : Nat, k ≤ m ∧ s153 = .int .i64 k ∧ s23 = .int .i64 (cntD (a, ia) (S.take k) : Nat) ∧ s24 = .int .i64 (cntD (a, ia) (Z.take k) : Nat) ∧ Below w3.heap.size w3 wr) (fun _ _ _ _ s153 _ => m - (intOf s153).toNat)
                case atStart => exact ⟨0, Nat.zero_le _, rfl, rfl, rfl, Below.refl _ _⟩
                case round =>
                  obtain ⟨k, hk, rfl, rfl, rfl, hBk⟩ := hrel
                  by_cases hkm : k < m
                  · have hDk := hBk.size
                    have r2 := (hBk.cell (p := ⟨D, 0, none⟩) hDc).trans r0
                    have r3 := (hBk.cell (p := ⟨D, 1, none⟩) hDc).trans r1
                    have hSk := hS3.below hBk (Nat.le_refl _)
                    have hrS := hSk.room
                    obtain ⟨gs, os, rfl, x0, x1⟩ := hSk.cell k hkm
                    have HCS := Lib.hid (cntD_take (a, ia) S k (by omega))
                    have HCZ := Lib.hid (cntD_take (a, ia) Z k (by omega))
                    have hM60 : cntD (a, ia) (S.take k) ≤ 60 := Nat.le_trans List.count_le_length (by rw [List.length_take]; omega)
                    have hN60 : cntD (a, ia) (Z.take k) ≤ 60 := Nat.le_trans List.count_le_length (by rw [List.length_take]; omega)
                    generalize S.getD k (0, 0) = x at *
                    obtain ⟨b, ib⟩ := x
                    dsimp only at x0 x1
                    have BX := (Below.refl wr.heap.size wr).alloc (Nat.le_refl _) (.cells #[.int .i64 b, .int .i64 ib] 24)
                    have x2 : (wr.alloc (.cells #[.int .i64 b, .int .i64 ib] 24)).cell? ⟨wr.heap.size, 0, none⟩ = some (.int .i64 b) := by simp
                    have x3 : (wr.alloc (.cells #[.int .i64 b, .int .i64 ib] 24)).cell? ⟨wr.heap.size, 1, none⟩ = some (.int .i64 ib) := by simp
                    have r4 := (BX.cell (p := ⟨D, 0, none⟩) (show D < _ by omega)).trans r2
                    have r5 := (BX.cell (p := ⟨D, 1, none⟩) (show D < _ by omega)).trans r3
                    have hTk := two_below hT3 (hBk.trans (BX.mono hDk))
                    have hZk := hZ3.below (hBk.trans (BX.mono hDk)) (Nat.le_refl _)
                    have hBx := hBk.trans (BX.mono hDk)
                    clear BX hBk hSk hS3 hZ3 hT3
                    generalize hcs : cntD (a, ia) (S.take k) = M at *
                    generalize hcz : cntD (a, ia) (Z.take k) = N at *
                    clear hcs hcz
                    go_upto_region 44 with fail
                    clear r2 r3 x0 x1
                    generalize wr.alloc (.cells #[.int .i64 b, .int .i64 ib] 24) = wy at *
                    generalize wr.heap.size = E at *
                    clear wr
                    obtain ⟨y, hy⟩ : ∃ y, Z.getD k (0, 0) = y := ⟨_, rfl⟩
                    rw [hy] at HCZ
                    obtain ⟨gz, oz, ez, z0, z1⟩ := hZk.cell k hkm
                    cases ez
                    rw [hy] at z0 z1
                    clear hy hZk
                    have hrk : m ≤ c0 := hrZ
                    obtain ⟨e, ie⟩ := y
                    dsimp only at z0 z1
                    obtain ⟨t0, t1, tf0, tf1⟩ := two_cells hTk
                    clear hTk
                    obtain ⟨f1, hf1⟩ : ∃ f1 : Bool, f1 = decide ((b, ib) = ((a, ia) : D2)) := ⟨_, rfl⟩
                    obtain ⟨f2, hf2⟩ : ∃ f2 : Bool, f2 = decide ((e, ie) = ((a, ia) : D2)) := ⟨_, rfl⟩
                    have HF2 := Lib.hid hf2
                    clear hf2
                    have HA : Hid (∃ A : Nat, cntD (a, ia) (S.take (k + 1)) = A ∧ A = M + if f1 then 1 else 0) := ⟨_, rfl, by rw [HCS.out, hf1]; simp⟩
                    have HB : Hid (∃ A : Nat, cntD (a, ia) (Z.take (k + 1)) = A ∧ A = N + if f2 then 1 else 0) := ⟨_, rfl, by rw [HCZ.out, HF2.out]; simp⟩
                    obtain ⟨A, hA1, hA⟩ := HA.out
                    obtain ⟨C, hC1, hC⟩ := HB.out
                    have HA1 := Lib.hid hA1
                    have HC1 := Lib.hid hC1
                    have HA := Lib.hid hA
                    have HC := Lib.hid hC
                    clear hA1 hC1 hA hC HB HCS HCZ
                    go_cut [160] (fun s160 wz => s160 = .bool f1 ∧ wz = wy)
                    case first =>
                      clear HF2 HA HC HA1 HC1
                      by_cases hab : b = a
                      · subst hab
                        by_cases hij : ib = ia
                        · subst hij
                          obtain rfl : f1 = true := by rw [hf1]; simp
                          clear hf1
                          go_wp2_with fail
                          go_meet
                          case rel => exact ⟨rfl, rfl⟩
                        · obtain rfl : f1 = false := by rw [hf1]; simp [hij]
                          have hji : (ib == ia) = false := by simp [hij]
                          clear hf1
                          go_wp2_with fail
                          go_meet
                          case rel => exact ⟨rfl, rfl⟩
                      · obtain rfl : f1 = false := by rw [hf1]; simp [hab]
                        have hba : (b == a) = false := by simp [hab]
                        clear hf1
                        go_wp2_with fail
                        go_meet
                        case rel => exact ⟨rfl, rfl⟩
                    case rest =>
                      obtain ⟨rfl, hwz⟩ := hcut
                      rw [hwz]
                      clear hwz hf1
                      clear wc
                      go_upto_if 160 with fail
                      go_cut [23] (fun s23 wz => s23 = .int .i64 (A : Nat) ∧ wz = wy)
                      case first =>
                        cases f1 with
                        | true =>
                          have hA' : A = M + 1 := HA.out
                          clear HA HC HA1 HC1 HF2
                          go_wp2_with fail
                          go_meet
                          case rel => exact ⟨by rw [hA']; go_num, rfl⟩
                        | false =>
                          have hA' : A = M := HA.out
                          clear HA HC HA1 HC1 HF2
                          go_wp2_with fail
                          go_meet
                          case rel => exact ⟨by rw [hA'], rfl⟩
                      case rest =>
                        obtain ⟨rfl, hwz⟩ := hcut
                        rw [hwz]
                        clear hwz HA
                        clear wc
                        go_wp2_with fail
                        go_cut [169] (fun s169 wz => s169 = .bool f2 ∧ Below wy.heap.size wy wz)
                        case first =>
                          have hf2 := HF2.out
                          clear HF2 HC HA1 HC1
                          by_cases hab : e = a
                          · subst hab
                            by_cases hij : ie = ia
                            · subst hij
                              obtain rfl : f2 = true := by rw [hf2]; simp
                              clear hf2
                              go_quiet (fail)
                              go_wp2_with fail
                              go_meet
                              case rel => exact ⟨rfl, below_drewND (Below.refl _ _) _⟩
                            · obtain rfl : f2 = false := by rw [hf2]; simp [hij]
                              have hji : (ie == ia) = false := by simp [hij]
                              clear hf2
                              go_quiet (fail)
                              go_wp2_with fail
                              go_meet
                              case rel => exact ⟨rfl, below_drewND (Below.refl _ _) _⟩
                          · obtain rfl : f2 = false := by rw [hf2]; simp [hab]
                            have hba : (e == a) = false := by simp [hab]
                            clear hf2
                            go_quiet (fail)
                            go_wp2_with fail
                            go_meet
                            case rel => exact ⟨rfl, below_drewND (Below.refl _ _) _⟩
                        case rest =>
                          obtain ⟨rfl, hwz⟩ := hcut
                          have hBz := hBx.trans (hwz.mono hBx.size)
                          clear hwz HF2
                          cases f2 with
                          | true =>
                            have hC' : C = N + 1 := HC.out
                            clear HC
                            go_wp2_with fail
                            go_roundw
                            case rel => exact ⟨k + 1, by omega, by go_num, by rw [HA1.out], (by rw [HC1.out, hC']; go_num), hBz⟩
                            case measure => simp [intOf]; omega
                          | false =>
                            have hC' : C = N := HC.out
                            clear HC
                            go_wp2_with fail
                            go_roundw
                            case rel => exact ⟨k + 1, by omega, by go_num, by rw [HA1.out], (by rw [HC1.out, hC']), hBz⟩
                            case measure => simp [intOf]; omega
                  · obtain rfl : k = m := by omega
                    rw [List.take_of_length_le (by omega), List.take_of_length_le (by omega), HcS.out, HcZ.out]
                    go_wp2_with fail
                    go_meet
                    case rel => exact ⟨rfl, rfl, hBk⟩
              case rest =>
                obtain ⟨rfl, rfl, hB4⟩ := hcut
                have BB4 := BB3.trans (hB4.mono BB3.size)
                clear hB4
                go_wp2_with fail
                go_roundw
                case rel => exact ⟨i + 1, by omega, by go_num, BB4⟩
                case measure => simp [intOf]; omega
          · obtain rfl : i = m := by omega
            go_wp2_with fail
            go_meet
            case rel => exact hBr
      case rest =>
        have hT2 := two_below hT hcut
        have hZ02 := hZ0.below hcut (Nat.le_refl _)
        have hZ12 := hZ1.below hcut (Nat.le_refl _)
        have hB2 := hB.trans (hcut.mono hB.size)
        clear hT hZ0 hZ1 hS hcut hIn
        generalize wc = wz at *
        go_wp2_with fail
        refine (alive_any _).mono ?_
        rintro e w5 ⟨rfl, B5⟩
        obtain ⟨t0, t1, tf0, tf1⟩ := two_cells (two_below hT2 B5)
        have hB5 := hB2.trans (B5.mono hB2.size)
        have hS5 := same_is o0 o1 m m c0 c1 Z Z true w5 (hZ02.below B5 (Nat.le_refl _)) (hZ12.below B5 (Nat.le_refl _)) (by omega) (by omega) (by simp)
        clear hT2 hZ02 hZ12 B5 hB2
        go_wp2_with fail
        refine hS5.mono ?_
        rintro e w6 ⟨rfl, B6⟩
        go_wp2_with fail
        go_ret
        exact ⟨rfl, hB5.trans (B6.mono hB5.size)⟩
end dorder
end Go.Proofs.Yteomenkojhppfaa
