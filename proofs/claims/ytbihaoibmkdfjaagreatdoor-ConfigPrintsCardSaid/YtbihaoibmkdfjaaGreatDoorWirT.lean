/-
  The program's own: a matcher's sign, a matcher of a word, and a matcher's word.
-/
import Derived.Test.YtbihaoibmkdfjaaGreatDoorWirZ
import Derived.Test.YtbihaoibmkdfjaaGreatDoorLabN
import Derived.Laws.RangeAny
import Derived.Laws.Runes
import Derived.Deep.RegionHeld3
import Derived.Deep.DeepCutAuto
import Derived.Deep.CutBlock
import Derived.RegionTactic
import Derived.StillTailTactics
import Derived.Deep.RegionLaw
import Derived.BigRegion
import Derived.Deep.QuietTactic
import Derived.BigQuiet
namespace Go.Proofs.YtbihaoibmkdfjaaGreatDoor
open Go.RowKit Go.Shelf
set_option linter.unusedVariables false

/-- what kind of matcher a rune is the sign of -/
def kindR (r : Int) : Option Int := if r = 61 then some 0 else if r = 33 then some 1 else if r = 94 then some 2 else if r = 63 then some 3 else none
theorem kindR_byte (c : UInt8) : kindR (c.toNat : Int) = kindB c := by
  have e : ∀ d : UInt8, ((c.toNat : Int) = (d.toNat : Int)) ↔ c = d := fun d => ⟨fun h => UInt8.toNat_inj.1 (by omega), fun h => by rw [h]⟩
  have e1 := e 61
  have e2 := e 33
  have e3 := e 94
  have e4 := e 63
  unfold kindR kindB
  simp only [show ((61 : UInt8).toNat : Int) = 61 from rfl, show ((33 : UInt8).toNat : Int) = 33 from rfl, show ((94 : UInt8).toNat : Int) = 94 from rfl, show ((63 : UInt8).toNat : Int) = 63 from rfl] at e1 e2 e3 e4
  simp only [e1, e2, e3, e4]
theorem kindR_high (r : Int) (h : 128 ≤ r) : kindR r = none := by
  unfold kindR
  rw [if_neg (by omega), if_neg (by omega), if_neg (by omega), if_neg (by omega)]
set_option maxRecDepth 100000 in
set_option maxHeartbeats 400000 in
theorem kind_hit (r k : Int) (h : kindR r = some k) (w : World) :
    Calls Tryz.prog 110 #[.int .i32 r] w fun e w' => e = .returned (.tuple #[.int .i64 k, .bool true]) ∧ w' = w := by
  have hr : (r = 61 ∧ k = 0) ∨ (r = 33 ∧ k = 1) ∨ (r = 94 ∧ k = 2) ∨ (r = 63 ∧ k = 3) := by
    unfold kindR at h
    split at h
    · cases h; simp_all
    split at h
    · cases h; simp_all
    split at h
    · cases h; simp_all
    split at h
    · cases h; simp_all
    · cases h
  clear h
  rcases hr with ⟨rfl, rfl⟩ | ⟨rfl, rfl⟩ | ⟨rfl, rfl⟩ | ⟨rfl, rfl⟩
  all_goals
    go_enter Tryz.func110, Tryz.ntmps110
    go_wp2_with fail
    go_ret2
    exact ⟨rfl, rfl⟩
set_option maxRecDepth 100000 in
set_option maxHeartbeats 400000 in
theorem kind_miss (r : Int) (h : kindR r = none) (w : World) :
    Calls Tryz.prog 110 #[.int .i32 r] w fun e w' => e = .returned (.tuple #[.int .i64 0, .bool false]) ∧ w' = w := by
  have hr : r ≠ 61 ∧ r ≠ 33 ∧ r ≠ 94 ∧ r ≠ 63 := by
    refine ⟨?_, ?_, ?_, ?_⟩ <;> (rintro rfl; revert h; decide)
  obtain ⟨h1, h2, h3, h4⟩ := hr
  have e1 : (r == 61) = false := by simp [h1]
  have e2 : (r == 33) = false := by simp [h2]
  have e3 : (r == 94) = false := by simp [h3]
  have e4 : (r == 63) = false := by simp [h4]
  clear h
  go_enter Tryz.func110, Tryz.ntmps110
  go_wp2_with fail
  go_ret2
  exact ⟨rfl, rfl⟩
set_option maxRecDepth 100000 in
set_option maxHeartbeats 400000 in
theorem sign_any (k : Int) (h : 0 ≤ k ∧ k ≤ 3) (w : World) :
    Calls Tryz.prog 97 #[.int .i64 k] w fun e w' => e = .returned (.int .i32 ((signC k).toNat : Int)) ∧ w' = w := by
  have hk : k = 0 ∨ k = 1 ∨ k = 2 ∨ k = 3 := by omega
  clear h
  rcases hk with rfl | rfl | rfl | rfl
  all_goals
    go_enter Tryz.func97, Tryz.ntmps97
    go_wp2_with fail
    go_ret
    exact ⟨rfl, rfl⟩

/-- how far a word has been looked at: no sign yet, or no matcher at all -/
def Looked (s : ByteArray) (n : Nat) : Prop := (∀ k (h : k < s.size), k < n → kindB (s[k]'h) = none) ∨ (askedB (bs s) = none ∧ ∃ k, ∃ h : k < s.size, k < n ∧ 128 ≤ (s[k]'h).toNat)
theorem Looked.start (s : ByteArray) : Looked s 0 := .inl fun k h hk => absurd hk (by omega)
theorem nameB_odd {s : ByteArray} {c : UInt8} (h : c ∈ bs s) (hc : 128 ≤ c.toNat) : nameB s = false := by
  cases hb : nameB s with
  | false => rfl
  | true =>
    have h1 := name_letters hb c h
    rw [letN_high _ (by omega)] at h1
    cases h1
theorem matB_name {q : Int} {s t : ByteArray} (h : nameB s = false) : matB (q, s, t) = false := by
  unfold matB
  dsimp only
  rw [h]
  simp
theorem askedW_far {s : ByteArray} {n : Nat} (h : ∀ k (hk : k < s.size), k < n → kindB (s[k]'hk) = none) : askedW [] (bs s) = askedW ((bs s).take n) ((bs s).drop n) := by
  have e := askedW_name ((bs s).take n) [] ((bs s).drop n) fun c hc => by
    obtain ⟨i, hi⟩ := List.getElem?_of_mem hc
    have hlt := (List.getElem?_eq_some_iff.1 hi).1
    rw [List.length_take, Array.length_toList] at hlt
    have hs : i < s.size := by have : s.size = s.data.size := rfl; omega
    rw [List.getElem?_take_of_lt (by omega), data_at s i hs] at hi
    cases hi
    exact h i hs (by omega)
  rw [List.take_append_drop, List.nil_append] at e
  exact e
theorem asked_sign {s : ByteArray} {n : Nat} {q : Int} (hP : Looked s n) (hlt : n < s.size) (hq : kindB (s[n]'hlt) = some q) : askedB (bs s) = okM (q, s.extract 0 n, s.extract (n + 1) s.size) := by
  rcases hP with hA | ⟨hN, k, hk, hkn, hc⟩
  · exact askedW_at hlt hq (askedW_far hA)
  · rw [hN]
    unfold okM
    have he : s[k]'hk ∈ bs (s.extract 0 n) := by
      rw [cut_text, List.drop_zero]
      show _ ∈ (tx _).data.toList
      rw [tx_data]
      exact List.mem_of_getElem? (i := k) (by rw [List.getElem?_take_of_lt hkn, data_at s k hk])
    rw [matB_name (nameB_odd he hc)]
    simp
theorem asked_skip {s : ByteArray} {n : Nat} (hP : Looked s n) (hlt : n < s.size) (hq : kindB (s[n]'hlt) = none) : Looked s (n + 1) := by
  rcases hP with hA | ⟨hN, k, hk, hkn, hc⟩
  · refine .inl fun k hk hkn => ?_
    by_cases e : k = n
    · subst e; exact hq
    · exact hA k hk (by omega)
  · exact .inr ⟨hN, k, hk, by omega, hc⟩
theorem askedW_high : ∀ (l acc : List UInt8), (∃ c ∈ acc, 128 ≤ c.toNat) → (askedW acc l).bind okM = none
  | [], acc, _ => rfl
  | c :: l, acc, ⟨d, hd, h128⟩ => by
    rw [askedW]
    cases hk : kindB c with
    | none => exact askedW_high l (acc ++ [c]) ⟨d, by simp [hd], h128⟩
    | some q =>
      show okM (q, tx acc, tx l) = none
      unfold okM
      have hn : nameB (tx acc) = false := nameB_odd (c := d) (by show _ ∈ (tx acc).data.toList; rw [tx_data]; exact hd) h128
      rw [matB_name hn]
      simp
theorem asked_high {s : ByteArray} {n m : Nat} (hP : Looked s n) (hlt : n < s.size) (hc : 128 ≤ (s[n]'hlt).toNat) (hm : n < m) : Looked s m := by
  rcases hP with hA | ⟨hN, k, hk, hkn, hc'⟩
  · refine .inr ⟨?_, n, hlt, hm, hc⟩
    have hn : kindB (s[n]'hlt) = none := by rw [← kindR_byte]; exact kindR_high _ (by omega)
    have e : askedW [] (bs s) = askedW ((bs s).take (n + 1)) ((bs s).drop (n + 1)) := askedW_far fun k hk hkn => by
      by_cases e : k = n
      · subst e; exact hn
      · exact hA k hk (by omega)
    unfold askedB
    rw [e]
    exact askedW_high _ _ ⟨s[n]'hlt, by rw [bs_next s n hlt]; simp, hc⟩
  · exact .inr ⟨hN, k, hk, by omega, hc'⟩
theorem asked_end {s : ByteArray} {n : Nat} (hP : Looked s n) (h : s.size ≤ n) : askedB (bs s) = none := by
  rcases hP with hA | ⟨hN, _⟩
  · unfold askedB
    rw [askedW_far hA, List.drop_eq_nil_of_le (by rw [Array.length_toList]; exact h)]
    rfl
  · exact hN
/-- what is told of a word: its matcher, or that it is none's -/
def AskOut (e : Ending) (l : List UInt8) : Prop := (∃ x, askedB l = some x ∧ e = .returned (.tuple #[aggM x, .int .i64 0])) ∨ (askedB l = none ∧ e = .returned (.tuple #[aggM zM, .int .i64 13]))
set_option maxRecDepth 100000 in
set_option maxHeartbeats 3200000 in
theorem asked_word (s : ByteArray) (w : World) (hs : s.size ≤ 4611686018427387904) :
    Calls Tryz.prog 88 #[.string s] w fun e w' => AskOut e (bs s) ∧ Below w.heap.size w w' := by
  have V0 := Vals.new w 59 #[.int .i64 0, .string ⟨#[]⟩, .string ⟨#[]⟩]
  have B0 := below_alloc w (.cells #[.int .i64 0, .string ⟨#[]⟩, .string ⟨#[]⟩] 59)
  obtain ⟨A, hA⟩ : ∃ A, A = w.heap.size := ⟨_, rfl⟩
  have hsz : (w.alloc (.cells #[.int .i64 0, .string ⟨#[]⟩, .string ⟨#[]⟩] 59)).heap.size = A + 1 := by rw [hA]; simp
  go_enter Tryz.func88, Tryz.ntmps88
  go_upto_region 1 with fail
  rw [← hA] at V0 B0 ⊢
  generalize w.alloc (.cells #[.int .i64 0, .string ⟨#[]⟩, .string ⟨#[]⟩] 59) = w1 at *
  have HA := Lib.hid hA
  clear hA
  go_wp2_with fail
  go_loopw [] (fun wr => ∃ pos : Nat, wr.heap[A + 1]? = some (.stringIter s pos) ∧ Vals wr A 59 #[.int .i64 0, .string ⟨#[]⟩, .string ⟨#[]⟩] ∧ Below A w wr ∧ Hid (Looked s pos)) (fun wr => s.size - wr.iterPos (A + 1))
  case atStart =>
    refine ⟨0, ?_, ?_, ?_, Looked.start s⟩
    · have := World.iter_heap w1 s 0
      rw [hsz] at this
      simpa using this
    · exact V0.keep (below_alloc w1 _) (Nat.le_refl _)
    · exact B0.alloc (by omega) _
  case round =>
    obtain ⟨pos, hit, hV, hB, HL⟩ := hrel
    have hsr : A + 1 < wr.heap.size := (Array.getElem?_eq_some_iff.1 hit).1
    by_cases hlt : pos < s.size
    · by_cases ha : (s[pos]'hlt).toNat < 128
      · have hnx : ∀ ty, (Instr.next (.pointer (some ⟨A + 1, 0, none⟩)) true ty).run Tryz.prog wr = _ := fun ty => Lib.run_next_ascii_at wr (A + 1) s pos ty hit hlt ha
        have hit2 := Lib.iterAt_heap wr (A + 1) s pos (pos + 1) hit
        have hB2 := Lib.below_iterAt hB (k := A + 1) (by omega) s (pos + 1)
        have hV2 : Vals (wr.iterAt (A + 1) s (pos + 1)) A _ _ := (Lib.iterAt_other wr (A + 1) A s (pos + 1) (by omega)).trans hV
        cases hq : kindB (s[pos]'hlt) with
        | none =>
          have HK := fun w => kind_miss ((s[pos]'hlt).toNat : Int) (by rw [kindR_byte]; exact hq) w
          have HN := Lib.hid (asked_skip HL.out hlt hq)
          clear hq V0 B0 HL
          generalize (s[pos]'hlt).toNat = c at *
          go_wp2_with fail
          generalize wr.iterAt (A + 1) s (pos + 1) = w2 at *
          refine (HK _).mono ?_
          rintro e w3 ⟨rfl, rfl⟩
          go_wp2_with fail
          go_roundw
          case rel => exact ⟨pos + 1, hit2, hV2, hB2, HN⟩
          case measure => simp only [World.iterPos, hit2, hit]; omega
        | some q =>
          have HK := fun w => kind_hit ((s[pos]'hlt).toNat : Int) q (by rw [kindR_byte]; exact hq) w
          have HN := Lib.hid (asked_sign HL.out hlt hq)
          have hp1 : wrap64 ((pos : Int) + 1) = ((pos + 1 : Nat) : Int) := by unfold wrap64; omega
          clear hq V0 B0 HL
          generalize (s[pos]'hlt).toNat = c at *
          go_wp2_with fail
          generalize wr.iterAt (A + 1) s (pos + 1) = w2 at *
          refine (HK _).mono ?_
          rintro e w3 ⟨rfl, rfl⟩
          go_upto_region 6 with fail
          go_region
          have hsA : A < w3.heap.size := hV2.lt
          have hB3 := (hB2.alloc (by omega) (.cells #[.int .i64 q, .string (s.extract 0 pos), .string (s.extract (pos + 1) s.size)] 59)).drew
          have hV3 : Vals (w3.alloc (.cells #[.int .i64 q, .string (s.extract 0 pos), .string (s.extract (pos + 1) s.size)] 59)).drew A _ _ := hV2.alloc (.cells #[.int .i64 q, .string (s.extract 0 pos), .string (s.extract (pos + 1) s.size)] 59)
          have hM3 : Vals (w3.alloc (.cells #[.int .i64 q, .string (s.extract 0 pos), .string (s.extract (pos + 1) s.size)] 59)).drew w3.heap.size _ _ := Vals.new w3 59 #[.int .i64 q, .string (s.extract 0 pos), .string (s.extract (pos + 1) s.size)]
          have hsW : A < ((w3.alloc (.cells #[.int .i64 q, .string (s.extract 0 pos), .string (s.extract (pos + 1) s.size)] 59)).drew).heap.size := hV3.lt
          generalize (w3.alloc (.cells #[.int .i64 q, .string (s.extract 0 pos), .string (s.extract (pos + 1) s.size)] 59)).drew = W at *
          generalize w3.heap.size = M at *
          clear hB2 hV2 hit2 hit hV hB
          generalize s.extract 0 pos = a at *
          generalize s.extract (pos + 1) s.size = b at *
          have m0 : W.cell? ⟨M, 0, none⟩ = some (.int .i64 q) := hM3.cell 0
          have m1 : W.cell? ⟨M, 1, none⟩ = some (.string a) := hM3.cell 1
          have m2 : W.cell? ⟨M, 2, none⟩ = some (.string b) := hM3.cell 2
          have HM := fun w => mat_any (q, a, b) w
          dsimp only [aggM] at HM
          cases hm : matB (q, a, b) with
          | true =>
            have HX : Hid (askedB (bs s) = some (q, a, b)) := by show _ = _; rw [HN.out]; unfold okM; rw [if_pos hm]
            rw [hm] at HM
            clear hm HN
            go_wp2_with fail
            refine (HM _).mono ?_
            rintro e w5 ⟨rfl, B5⟩
            have hV5 := hV3.keep B5 (Nat.le_refl _)
            have hM5 := hM3.keep B5 (Nat.le_refl _)
            have hB5 := hB3.trans (B5.mono (by omega))
            have x0 : w5.cell? ⟨A, 0, none⟩ = some (.int .i64 0) := hV5.cell 0
            have x1 : w5.cell? ⟨A, 1, none⟩ = some (.string ⟨#[]⟩) := hV5.cell 1
            have x2 : w5.cell? ⟨A, 2, none⟩ = some (.string ⟨#[]⟩) := hV5.cell 2
            have f0 := hV5.free 0
            have f1 := hV5.free 1
            have f2 := hV5.free 2
            have n0 : w5.cell? ⟨M, 0, none⟩ = some (.int .i64 q) := hM5.cell 0
            have n1 : w5.cell? ⟨M, 1, none⟩ = some (.string a) := hM5.cell 1
            have n2 : w5.cell? ⟨M, 2, none⟩ = some (.string b) := hM5.cell 2
            have hV6 : Vals (((w5.setCell ⟨A, 0, none⟩ (.int .i64 q)).setCell ⟨A, 1, none⟩ (.string a)).setCell ⟨A, 2, none⟩ (.string b)) A 59 #[.int .i64 q, .string a, .string b] := by
              have := ((hV5.set 0 (.int .i64 q)).set 1 (.string a)).set 2 (.string b)
              simpa using this
            have hB6 := ((hB5.setCell (p := ⟨A, 0, none⟩) (Nat.le_refl _) (.int .i64 q)).setCell (p := ⟨A, 1, none⟩) (Nat.le_refl _) (.string a)).setCell (p := ⟨A, 2, none⟩) (Nat.le_refl _) (.string b)
            clear hV3 hM3 hB3 B5 hV5 hM5 hB5 m0 m1 m2
            go_wp2_with fail
            refine bodyPost_ret (retM rfl rfl rfl hV6) rfl ?_
            exact ⟨.inl ⟨_, HX.out, rfl⟩, HA.out ▸ hB6⟩
          | false =>
            have HX : Hid (askedB (bs s) = none) := by show _ = _; rw [HN.out]; unfold okM; rw [if_neg (by rw [hm]; simp)]
            rw [hm] at HM
            clear hm HN
            go_wp2_with fail
            refine (HM _).mono ?_
            rintro e w5 ⟨rfl, B5⟩
            have hV5 := hV3.keep B5 (Nat.le_refl _)
            have hB5 := hB3.trans (B5.mono (by omega))
            have x0 : w5.cell? ⟨A, 0, none⟩ = some (.int .i64 0) := hV5.cell 0
            have x1 : w5.cell? ⟨A, 1, none⟩ = some (.string ⟨#[]⟩) := hV5.cell 1
            have x2 : w5.cell? ⟨A, 2, none⟩ = some (.string ⟨#[]⟩) := hV5.cell 2
            have f0 := hV5.free 0
            have f1 := hV5.free 1
            have f2 := hV5.free 2
            have hV6 : Vals (((w5.setCell ⟨A, 0, none⟩ (.int .i64 0)).setCell ⟨A, 1, none⟩ (.string ⟨#[]⟩)).setCell ⟨A, 2, none⟩ (.string ⟨#[]⟩)) A 59 #[.int .i64 0, .string ⟨#[]⟩, .string ⟨#[]⟩] := by
              have := ((hV5.set 0 (.int .i64 0)).set 1 (.string ⟨#[]⟩)).set 2 (.string ⟨#[]⟩)
              simpa using this
            have hB6 := ((hB5.setCell (p := ⟨A, 0, none⟩) (Nat.le_refl _) (.int .i64 0)).setCell (p := ⟨A, 1, none⟩) (Nat.le_refl _) (.string ⟨#[]⟩)).setCell (p := ⟨A, 2, none⟩) (Nat.le_refl _) (.string ⟨#[]⟩)
            clear hV3 hM3 hB3 B5 hV5 hB5 m0 m1 m2
            go_wp2_with fail
            refine bodyPost_ret (retM rfl rfl rfl hV6) rfl ?_
            exact ⟨.inr ⟨HX.out, rfl⟩, HA.out ▸ hB6⟩
      · have hnx : ∀ ty, (Instr.next (.pointer (some ⟨A + 1, 0, none⟩)) true ty).run Tryz.prog wr = _ := fun ty => Lib.run_next_any_at wr (A + 1) s pos ty hit hlt
        obtain ⟨hd, hd1⟩ := decode_high s pos hlt (by omega)
        have hit2 := Lib.iterAt_heap wr (A + 1) s pos (pos + (Utf8.decode s pos).2) hit
        have hB2 := Lib.below_iterAt hB (k := A + 1) (by omega) s (pos + (Utf8.decode s pos).2)
        have hV2 : Vals (wr.iterAt (A + 1) s (pos + (Utf8.decode s pos).2)) A _ _ := (Lib.iterAt_other wr (A + 1) A s (pos + (Utf8.decode s pos).2) (by omega)).trans hV
        have HK := fun w => kind_miss ((Utf8.decode s pos).1 : Int) (kindR_high _ (by omega)) w
        have HN := Lib.hid (asked_high HL.out hlt (by omega) (m := pos + (Utf8.decode s pos).2) (by omega))
        clear V0 B0 HL hd
        generalize (Utf8.decode s pos) = c at *
        go_wp2_with fail
        generalize wr.iterAt (A + 1) s (pos + c.2) = w2 at *
        refine (HK _).mono ?_
        rintro e w3 ⟨rfl, rfl⟩
        go_wp2_with fail
        go_roundw
        case rel => exact ⟨pos + c.2, hit2, hV2, hB2, HN⟩
        case measure => simp only [World.iterPos, hit2, hit]; omega
    · have hnx : ∀ ty, (Instr.next (.pointer (some ⟨A + 1, 0, none⟩)) true ty).run Tryz.prog wr = _ := fun ty => Lib.run_next_end_at wr (A + 1) s pos ty hit hlt
      have HN := Lib.hid (asked_end HL.out (by omega))
      have x0 : wr.cell? ⟨A, 0, none⟩ = some (.int .i64 0) := hV.cell 0
      have x1 : wr.cell? ⟨A, 1, none⟩ = some (.string ⟨#[]⟩) := hV.cell 1
      have x2 : wr.cell? ⟨A, 2, none⟩ = some (.string ⟨#[]⟩) := hV.cell 2
      have f0 := hV.free 0
      have f1 := hV.free 1
      have f2 := hV.free 2
      have hV6 : Vals (((wr.setCell ⟨A, 0, none⟩ (.int .i64 0)).setCell ⟨A, 1, none⟩ (.string ⟨#[]⟩)).setCell ⟨A, 2, none⟩ (.string ⟨#[]⟩)) A 59 #[.int .i64 0, .string ⟨#[]⟩, .string ⟨#[]⟩] := by
        have := ((hV.set 0 (.int .i64 0)).set 1 (.string ⟨#[]⟩)).set 2 (.string ⟨#[]⟩)
        simpa using this
      have hB6 := ((hB.setCell (p := ⟨A, 0, none⟩) (Nat.le_refl _) (.int .i64 0)).setCell (p := ⟨A, 1, none⟩) (Nat.le_refl _) (.string ⟨#[]⟩)).setCell (p := ⟨A, 2, none⟩) (Nat.le_refl _) (.string ⟨#[]⟩)
      clear V0 B0 HL
      go_wp2_with fail
      refine bodyPost_ret (retM rfl rfl rfl hV6) rfl ?_
      exact ⟨.inr ⟨HN.out, rfl⟩, HA.out ▸ hB6⟩

theorem enc0 : Utf8.encode 61 = tx [61] := by kernel_rfl
theorem enc1 : Utf8.encode 33 = tx [33] := by kernel_rfl
theorem enc2 : Utf8.encode 94 = tx [94] := by kernel_rfl
theorem enc3 : Utf8.encode 63 = tx [63] := by kernel_rfl
theorem sign_text (k : Int) (h : 0 ≤ k ∧ k ≤ 3) : Utf8.encode ((signC k).toNat : Int) = tx [signC k] := by
  have hk : k = 0 ∨ k = 1 ∨ k = 2 ∨ k = 3 := by omega
  rcases hk with rfl | rfl | rfl | rfl
  · exact enc0
  · exact enc1
  · exact enc2
  · exact enc3
set_option maxRecDepth 100000 in
set_option maxHeartbeats 1600000 in
theorem word_matcher (m : M3) (hm : 0 ≤ m.1 ∧ m.1 ≤ 3) (hz : m.2.1.size ≤ 1000 ∧ m.2.2.size ≤ 1000) (w : World) :
    Calls Tryz.prog 74 #[aggM m] w fun e w' => e = .returned (.string (tx (askB m))) ∧ Below w.heap.size w w' := by
  obtain ⟨q, s, t⟩ := m
  have HA := Lib.hid (ask_text (q, s, t))
  have hq : 0 ≤ q ∧ q ≤ 3 := hm
  have z1 : s.size ≤ 1000 := hz.1
  have z2 : t.size ≤ 1000 := hz.2
  clear hm hz
  have z3 : (tx [signC q]).size = 1 := by rw [tx_size]; rfl
  have HS := fun w => sign_any q hq w
  have HE : ∀ W : World, (convert 21 9 (.int .i32 ((signC q).toNat : Int))).run Tryz.prog W = .ok (.string (tx [signC q])) W := fun W => by
    rw [run_convert_int_string W 21 9 .i32 _ (by rw [Tryz.underlying21]; rfl) Tryz.underlying9, sign_text q hq]
  dsimp only at HA
  generalize tx [signC q] = g at *
  generalize ((signC q).toNat : Int) = c at *
  dsimp only [aggM]
  have B1 := below_alloc w (.cells #[.int .i64 q, .string s, .string t] 59)
  go_enter Tryz.func74, Tryz.ntmps74
  go_wp2_with fail
  have c0 : (w.alloc (.cells #[.int .i64 q, .string s, .string t] 59)).cell? ⟨w.heap.size, 0, none⟩ = some (.int .i64 q) := by simp
  have c1 : (w.alloc (.cells #[.int .i64 q, .string s, .string t] 59)).cell? ⟨w.heap.size, 1, none⟩ = some (.string s) := by simp
  have c2 : (w.alloc (.cells #[.int .i64 q, .string s, .string t] 59)).cell? ⟨w.heap.size, 2, none⟩ = some (.string t) := by simp
  generalize w.alloc (.cells #[.int .i64 q, .string s, .string t] 59) = w1 at *
  go_quiet ((go_at_call 97; refine Calls.quiet_of_same (HS _)))
  go_wp2_with fail
  go_ret
  exact ⟨retS HA.out.symm, belowN B1 _⟩
set_option maxRecDepth 100000 in
set_option maxHeartbeats 1600000 in
theorem ask_word (m : M3) (hz : m.2.1.size ≤ 1000 ∧ m.2.2.size ≤ 1000) (w : World) :
    Calls Tryz.prog 46 #[aggM m] w fun e w' => e = .returned (if matB m = true then .tuple #[.string (tx (askB m)), .int .i64 0] else .tuple #[.string ⟨#[]⟩, .int .i64 1]) ∧ Below w.heap.size w w' := by
  obtain ⟨q, s, t⟩ := m
  have HM := fun w => mat_any (q, s, t) w
  have hq : matB (q, s, t) = true → 0 ≤ q ∧ q ≤ 3 := fun h => (mat_parts h).1
  have HW := fun (h : matB (q, s, t) = true) w => word_matcher (q, s, t) (hq h) hz w
  clear hz hq
  generalize tx (askB (q, s, t)) = y at *
  generalize matB (q, s, t) = b at *
  have V0 := Vals.new w 59 #[.int .i64 q, .string s, .string t]
  have B0 := below_alloc w (.cells #[.int .i64 q, .string s, .string t] 59)
  dsimp only [aggM] at *
  go_enter Tryz.func46, Tryz.ntmps46
  go_upto_region 1 with fail
  generalize w.alloc (.cells #[.int .i64 q, .string s, .string t] 59) = w1 at *
  have c0 : w1.cell? ⟨w.heap.size, 0, none⟩ = some (.int .i64 q) := V0.cell 0
  have c1 : w1.cell? ⟨w.heap.size, 1, none⟩ = some (.string s) := V0.cell 1
  have c2 : w1.cell? ⟨w.heap.size, 2, none⟩ = some (.string t) := V0.cell 2
  cases b with
  | false =>
    clear HW
    go_wp2_with fail
    refine (HM _).mono ?_
    rintro e w2 ⟨rfl, B2⟩
    go_wp2_with fail
    go_ret2
    exact ⟨rfl, B0.trans (B2.mono B0.size)⟩
  | true =>
    have HV := HW rfl
    clear HW
    go_wp2_with fail
    refine (HM _).mono ?_
    rintro e w2 ⟨rfl, B2⟩
    have V2 := V0.keep B2 (Nat.le_refl _)
    have d0 : w2.cell? ⟨w.heap.size, 0, none⟩ = some (.int .i64 q) := V2.cell 0
    have d1 : w2.cell? ⟨w.heap.size, 1, none⟩ = some (.string s) := V2.cell 1
    have d2 : w2.cell? ⟨w.heap.size, 2, none⟩ = some (.string t) := V2.cell 2
    have B3 := B0.trans (B2.mono B0.size)
    clear V0 V2 B0 B2 c0 c1 c2
    go_wp2_with fail
    refine (HV _).mono ?_
    rintro e w4 ⟨rfl, B4⟩
    go_wp2_with fail
    go_ret2
    exact ⟨rfl, B3.trans (B4.mono B3.size)⟩
end Go.Proofs.YtbihaoibmkdfjaaGreatDoor
