/-
  The library's functions on texts, where they lie in this program: split at a byte, numbers as digits and back; what the program's variables of the library hold.
-/
import Derived.Test.YtbihaoibmkdfjaaGreatDoorSplC
import Derived.Test.YtbihaoibmkdfjaaGreatDoorLayX
import Derived.Shelf.Strings.SplitCore
import Derived.Shelf.Strings.Search3
import Derived.Shelf.Strings.Count
import Derived.Shelf.Strconv.Itoa3
import Derived.Shelf.Strconv.AtoiAll
import Derived.Lib.LaidTab
import Derived.Lib.SmallJoins
import Derived.Lib.AppendIntMem
import Derived.Lib.AtoiErrMem
import Derived.BigRegion
import Derived.Deep.QuietTactic
import Derived.BigQuiet
namespace Go.Proofs.YtbihaoibmkdfjaaGreatDoor
open Go.RowKit Go.Shelf
set_option linter.unusedVariables false

/-- what the library's variables hold: two errors, and powers of ten -/
structure Tabs (w : World) : Prop where
  syn : ∃ tp p, w.var? Tryz.prog "strconv.ErrSyntax" = some #[.iface tp p]
  rng : ∃ tp p, w.var? Tryz.prog "strconv.ErrRange" = some #[.iface tp p]
  pow : Lib.TabIs Tryz.prog w "internal/strconv.uint64pow10" .u64 Lib.pow10Tab
theorem gSyn : Tryz.prog.globalNamed "strconv.ErrSyntax" = some 6 := by kernel_rfl
theorem gRng : Tryz.prog.globalNamed "strconv.ErrRange" = some 7 := by kernel_rfl
theorem gPow : Tryz.prog.globalNamed "internal/strconv.uint64pow10" = some 1 := by kernel_rfl
theorem Tabs.below {w w' : World} {B : Nat} (h : Tabs w) (hB : Below B w w') (hs : w.heap.size ≤ B) : Tabs w' := by
  obtain ⟨⟨a, b, h1⟩, ⟨c, d, h2⟩, h3⟩ := h
  exact ⟨⟨a, b, Joins.var_stays gSyn h1 hB hs⟩, ⟨c, d, Joins.var_stays gRng h2 hB hs⟩, Joins.tab_stays gPow h3 hB hs⟩

theorem index_one (c : UInt8) (l : List UInt8) : Lib.index l [c] = Lib.indexByte l c := by
  induction l with
  | nil => simp [Lib.index, Lib.indexByte]
  | cons b l ih =>
    rw [Lib.index, Lib.indexByte, ih]
    by_cases h : b = c
    · subst h; simp [List.isPrefixOf]
    · simp [List.isPrefixOf, h, Ne.symm h]
set_option maxRecDepth 100000 in
set_option maxHeartbeats 1600000 in
theorem split_at (x : UInt8) (s : ByteArray) (w : World) (hs : s.size ≤ 100000) :
    Calls Tryz.prog 17 #[.string s, .string ⟨#[x]⟩] w fun e w' => e = .returned (.slice (some ⟨w.heap.size, 0, none⟩) (splitC x [] (bs s)).length (splitC x [] (bs s)).length) ∧ Ts w' (some ⟨w.heap.size, 0, none⟩) (splitC x [] (bs s)).length (splitC x [] (bs s)).length ((splitC x [] (bs s)).map tx) ∧ Vals w' w.heap.size 9 (((splitC x [] (bs s)).map tx).map Value.string).toArray ∧ Below w.heap.size w w' := by
  have hle : Lib.countB s ⟨#[x]⟩ ≤ s.size := Lib.countB_le ⟨#[x]⟩ (by first | decide | simp [ByteArray.size]) s.size s (Nat.le_refl _)
  have hc := Any.strings_genSplit_core laySplit infoTx s ⟨#[x]⟩ 0 (-1) (Lib.countB s ⟨#[x]⟩ + 1) w (by omega) (by first | decide | simp [ByteArray.size]) (by first | decide | simp [ByteArray.size])
    (fun y c hx => (Any.strings_Index_one { laySplit with } y x _).mono fun e w' ⟨h1, h2⟩ => ⟨by rw [h1, ← index_one], h2⟩)
    ((Any.strings_Count_one { laySplit with } s x w).mono fun e w' ⟨h1, h2⟩ => ⟨by rw [h1, show Lib.countB s ⟨#[x]⟩ = (bs s).count x from Lib.count_one x s.data.toList]; rfl, h2⟩)
    (by first | decide | simp [ByteArray.size]) (by first | decide | simp [ByteArray.size]) (by rw [if_pos (by first | decide | simp [ByteArray.size])]; omega)
  rw [Nat.add_sub_cancel, splitC_parts, ← splitC_count] at hc
  change Calls Tryz.prog 39 _ _ _ at hc
  have hcells : Lib.cellsOf ((splitC x [] (bs s)).map tx) (splitC x [] (bs s)).length = (((splitC x [] (bs s)).map tx).map Value.string).toArray := by
    have h := Lib.cellsOf_full ((splitC x [] (bs s)).map tx)
    rw [List.length_map] at h
    exact h
  rw [hcells, List.length_map] at hc
  have hT : Ts (w.alloc (.cells (((splitC x [] (bs s)).map tx).map Value.string).toArray 9)) (some ⟨w.heap.size, 0, none⟩) (splitC x [] (bs s)).length (splitC x [] (bs s)).length ((splitC x [] (bs s)).map tx) := by
    refine ⟨by rw [List.length_map], Nat.le_refl _, fun i hi => ⟨w.heap.size, 0, rfl, ?_⟩⟩
    rw [World.cell?_alloc_at _ _ _ _ rfl]
    simp [List.getD_eq_getElem?_getD, hi]
  have hB := below_alloc w (.cells (((splitC x [] (bs s)).map tx).map Value.string).toArray 9)
  have hV := Vals.new w 9 (((splitC x [] (bs s)).map tx).map Value.string).toArray
  have HT := Lib.hid hT
  have HV := Lib.hid hV
  have HB := Lib.hid hB
  clear hT hB hV hcells hle
  change Calls _ _ _ _ (fun e w' => e = _ ∧ w' = w.alloc (.cells (((splitC x [] (bs s)).map tx).map Value.string).toArray 9)) at hc
  generalize (splitC x [] (bs s)).length = n at *
  generalize (splitC x [] (bs s)).map tx = l at *
  generalize w.alloc (.cells (l.map Value.string).toArray 9) = w1 at *
  go_enter Tryz.func17, Tryz.ntmps17
  go_wp2_with fail
  refine hc.mono ?_
  rintro e w' ⟨rfl, rfl⟩
  go_wp2_with fail
  go_ret
  exact ⟨rfl, HT.out, HV.out, HB.out⟩

set_option maxRecDepth 100000 in
set_option maxHeartbeats 400000 in
theorem tick_right (n : Int) (w : World) :
    Calls Tryz.prog 109 #[.int .i64 n] w fun e w' => e = .returned (.bool (timeB n)) ∧ w' = w := by
  have HT : Hid (timeB n = (decide (0 ≤ n) && decide (n ≤ 1099511627776))) := rfl
  go_enter Tryz.func109, Tryz.ntmps109
  by_cases h0 : 0 ≤ n
  · go_wp2_with fail
    go_ret
    exact ⟨retB (by rw [HT.out]; simp [h0]), rfl⟩
  · go_wp2_with fail
    go_ret
    exact ⟨retB (by rw [HT.out, show decide (0 ≤ n) = false by simp; omega]; simp), rfl⟩
theorem itoa_any (n : Int) (h : timeB n = true) (w : World) (hT : Tabs w) :
    Calls Tryz.prog 24 #[.int .i64 n] w fun e w' => e = .returned (.string (tx (digsB n.toNat))) ∧ Below w.heap.size w w' := by
  unfold timeB at h
  simp at h
  have hc := Any.strconv_Itoa layItoa n (by omega) (by omega) w hT.pow
  change Calls Tryz.prog 24 _ _ _ at hc
  refine hc.mono ?_
  rintro e w' ⟨rfl, k, os, rfl⟩
  exact ⟨by rw [itoa_digs n (by omega)]; rfl, Lib.below_grow w.heap.size w (Nat.le_refl _) k os⟩
/-- what is told of a text that may be a number -/
def AtoiOut (e : Ending) (s : ByteArray) : Prop := (∃ v, Lib.atoiAll (bs s) = .ok v ∧ e = .returned (.tuple #[.int .i64 v, .nilIface])) ∨ ((∀ v, Lib.atoiAll (bs s) ≠ .ok v) ∧ ∃ v tp p, e = .returned (.tuple #[.int .i64 v, .iface tp (.pointer (some p))]))
theorem atoi_any (s : ByteArray) (w : World) (hs : s.size ≤ 100000) (hT : Tabs w) :
    Calls Tryz.prog 108 #[.string s] w fun e w' => AtoiOut e s ∧ Below w.heap.size w w' := by
  obtain ⟨⟨tp, p, h1⟩, ⟨tq, q, h2⟩, _⟩ := hT
  rcases h : Lib.atoiAll s.data.toList with v | _ | _
  · have hc := Any.strconv_Atoi_ok layAtoi s (by omega) v h w
    change Calls Tryz.prog 108 _ _ _ at hc
    refine hc.mono ?_
    rintro e w' ⟨rfl, hw⟩
    refine ⟨.inl ⟨v, h, rfl⟩, ?_⟩
    rcases hw with rfl | ⟨t, rfl⟩
    · exact Below.refl _ _
    · exact Lib.bytesWorld_below _ _ _
  · have hc := Any.strconv_Atoi_syntax layAtoi s (by omega) h (.iface tp p) w (by have h0 := World.var?_cell gSyn h1 0; show w.cell? ⟨6, 0, none⟩ = _; simpa using h0) (Or.inr ⟨tp, p, rfl⟩)
    change Calls Tryz.prog 108 _ _ _ at hc
    refine hc.mono ?_
    rintro e w' ⟨N, rfl, _, _, B⟩
    exact ⟨.inr ⟨fun v hv => (by rw [show Lib.atoiAll (bs s) = _ from h] at hv; cases hv), _, _, _, rfl⟩, B⟩
  · have hc := Any.strconv_Atoi_range layAtoi s (by omega) h (.iface tq q) w (by have h0 := World.var?_cell gRng h2 0; show w.cell? ⟨7, 0, none⟩ = _; simpa using h0) (Or.inr ⟨tq, q, rfl⟩)
    change Calls Tryz.prog 108 _ _ _ at hc
    refine hc.mono ?_
    rintro e w' ⟨N, rfl, _, _, B⟩
    exact ⟨.inr ⟨fun v hv => (by rw [show Lib.atoiAll (bs s) = _ from h] at hv; cases hv), _, _, _, rfl⟩, B⟩
theorem retIB {a b : Int} {c : Bool} (h : a = b) : Ending.returned (.tuple #[.int .i64 a, .bool c]) = .returned (.tuple #[.int .i64 b, .bool c]) := by rw [h]
/-- what is told of a word that may be a time -/
def TimeOut (e : Ending) (l : List UInt8) : Prop := (∃ n : Nat, numB l = some n ∧ e = .returned (.tuple #[.int .i64 (n : Int), .bool true])) ∨ (numB l = none ∧ e = .returned (.tuple #[.int .i64 0, .bool false]))
set_option maxRecDepth 100000 in
set_option maxHeartbeats 1600000 in
theorem parse_number (s : ByteArray) (w : World) (hs : s.size ≤ 100000) (hT : Tabs w) :
    Calls Tryz.prog 87 #[.string s] w fun e w' => TimeOut e (bs s) ∧ Below w.heap.size w w' := by
  have HA := atoi_any s w hs hT
  have HI := fun (n : Int) (h : timeB n = true) (w1 : World) (B1 : Below w.heap.size w w1) => itoa_any n h w1 (hT.below B1 (Nat.le_refl _))
  clear hT
  go_enter Tryz.func87, Tryz.ntmps87
  go_wp2_with fail
  refine HA.mono ?_
  rintro e w1 ⟨⟨v, hv, rfl⟩ | ⟨hv, v, tp, p, rfl⟩, B⟩
  · have HR := fun w => tick_right v w
    cases hb : timeB v with
    | false =>
      have HN := Lib.hid (time_no hv hb)
      rw [hb] at HR
      clear hv hb HI
      go_wp2_with fail
      refine (HR _).mono ?_
      rintro e w2 ⟨rfl, rfl⟩
      go_wp2_with fail
      go_ret2
      exact ⟨.inr ⟨HN.out, rfl⟩, B⟩
    | true =>
      have HW := HI v hb _ B
      rw [hb] at HR
      by_cases hd : digsB v.toNat = bs s
      · have HN := Lib.hid (time_is hb hd)
        have hvn : v = (v.toNat : Int) := by unfold timeB at hb; simp at hb; omega
        have HV := Lib.hid hvn
        have hq : ((tx (digsB v.toNat)).toList == s.toList) = true := bs_beq _ _ true (by unfold bs; rw [tx_data]; simp; exact hd)
        clear hv hb HI hd hvn
        generalize tx (digsB v.toNat) = y at *
        go_wp2_with fail
        refine (HR _).mono ?_
        rintro e w2 ⟨rfl, rfl⟩
        go_wp2_with fail
        refine HW.mono ?_
        rintro e w3 ⟨rfl, B3⟩
        go_wp2_with fail
        go_ret2
        exact ⟨.inl ⟨_, HN.out, retIB HV.out⟩, B.trans (B3.mono B.size)⟩
      · have HN := Lib.hid (time_odd hv hd)
        have hq : ((tx (digsB v.toNat)).toList == s.toList) = false := bs_beq _ _ false (by unfold bs; rw [tx_data]; simp; exact hd)
        clear hv hb HI hd
        generalize tx (digsB v.toNat) = y at *
        go_wp2_with fail
        refine (HR _).mono ?_
        rintro e w2 ⟨rfl, rfl⟩
        go_wp2_with fail
        refine HW.mono ?_
        rintro e w3 ⟨rfl, B3⟩
        go_wp2_with fail
        go_ret2
        exact ⟨.inr ⟨HN.out, rfl⟩, B.trans (B3.mono B.size)⟩
  · have HN := Lib.hid (time_syn hv)
    clear hv HI
    go_wp2_with fail
    go_ret2
    exact ⟨.inr ⟨HN.out, rfl⟩, B⟩
end Go.Proofs.YtbihaoibmkdfjaaGreatDoor
