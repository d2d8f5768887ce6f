/-
  Those of some hushes that each of some functions takes: a row of one's own.
-/
import Derived.Test.YtkckdombcnifnaaHshE
namespace Go.Proofs.Ytkckdombcnifnaa
open Go.RowKit Go.Shelf
set_option linter.unusedVariables false

/-- a function, by what it tells -/
structure Fn where
  g : Nat
  cb : Array Value
  p : H5 → Bool
abbrev zF : Fn := ⟨0, #[], fun _ => false⟩
def FnOk (w : World) (l : List H5) (q : Fn) : Prop := TellsH w l q.g q.cb q.p ∧ ∀ args w, (callFunc q.g args).run Try.prog w = .ok (.enter q.g args) w
def keepF (fs : List Fn) (l : List H5) : List H5 := l.filter fun x => fs.all fun q => q.p x
theorem keepF_nil (l : List H5) : keepF [] l = l := by
  unfold keepF
  simp
theorem keepF_next (fs : List Fn) (l : List H5) (k : Nat) (hk : k < fs.length) : keepF (fs.take (k + 1)) l = (keepF (fs.take k) l).filter fun x => !!(fs.getD k zF).p x := by
  unfold keepF
  have e : fs.getD k zF = fs[k] := by rw [List.getD_eq_getElem?_getD, List.getElem?_eq_getElem hk]; rfl
  rw [List.filter_filter, List.take_succ_eq_append_getElem hk, e]
  congr 1
  funext x
  rw [List.all_append]
  simp [Bool.and_comm]
theorem keepF_mem {fs : List Fn} {l : List H5} : ∀ x ∈ keepF fs l, x ∈ l := fun x hx => (List.mem_filter.1 hx).1
set_option maxRecDepth 100000 in
set_option maxHeartbeats 6400000 in
theorem matching_any (oa : Option Addr) (n cap : Nat) (l : List H5) (F m k : Nat) (fs : List Fn) (w : World) (h : Hs w oa n cap l) (hn : n ≤ 1000000) (hm : fs.length = m) (hmk : m ≤ k) (hf : ∀ q ∈ fs, FnOk w l q) (hc : ∀ i, i < m → w.cell? ⟨F, i, none⟩ = some (.func (.func (fs.getD i zF).g) #[] (fs.getD i zF).cb)) (hm9 : m ≤ 9) :
    Calls Try.prog 26 #[.slice oa n cap, .slice (some ⟨F, 0, none⟩) m k] w fun e w' => (∃ v, e = .returned v ∧ w'.ownsRow w.heap.size 25 3 v (keepF fs l).length (cellsH (keepF fs l))) ∧ Below w.heap.size w w' := by
  have HC := cloneH_any oa n cap l w h hn
  have hl := h.len
  have HF : Hid (∀ i, i < m → FnOk w l (fs.getD i zF)) := fun i hi => by
    have e : fs.getD i zF = fs[i]'(by omega) := by rw [List.getD_eq_getElem?_getD, List.getElem?_eq_getElem (by omega)]; rfl
    rw [e]
    exact hf _ (List.getElem_mem _)
  have HL : Hid (∀ fs : List Fn, (keepF fs l).length ≤ n) := fun fs => by rw [← hl]; exact List.length_filter_le _ _
  have HCC := Lib.hid hc
  clear hf h hc
  go_enter Try.func26, Try.ntmps26
  go_wp2_with fail
  refine HC.mono ?_
  rintro e w1 ⟨⟨v0, rfl, own0⟩, B0⟩
  have own1 : Hid (w1.ownsRow w.heap.size 25 3 v0 (keepF (fs.take 0) l).length (cellsH (keepF (fs.take 0) l))) := by
    show World.ownsRow _ _ _ _ _ _ _
    rw [List.take_zero, keepF_nil, hl]
    exact own0
  clear own0 HC
  go_wp2_with fail
  go_loopw [5, 7, 12] (fun s5 _ s12 wr => ∃ i : Nat, i ≤ m ∧ s12 = .int .i64 i ∧ Hid (wr.ownsRow w.heap.size 25 3 s5 (keepF (fs.take i) l).length (cellsH (keepF (fs.take i) l))) ∧ Below w.heap.size w wr) (fun _ _ s12 _ => m - (intOf s12).toNat)
  case atStart => exact ⟨0, Nat.zero_le _, rfl, own1, B0⟩
  case round =>
    obtain ⟨i, hi, rfl, HO, hB⟩ := hrel
    by_cases hlt : i < m
    · have c0 := (hB.cell (p := ⟨F, i, none⟩) (World.block_lt_of_cell? w _ (HCC.out i hlt))).trans (HCC.out i hlt)
      obtain ⟨hT, eg⟩ := HF.out i hlt
      have HX := Lib.hid (keepF_next fs l i (by omega))
      have hlen := HL.out (fs.take i)
      have hmem : ∀ x ∈ keepF (fs.take i) l, x ∈ l := keepF_mem
      generalize fs.getD i zF = q at *
      generalize keepF (fs.take i) l = l1 at *
      obtain ⟨g, cb, p⟩ := q
      dsimp only at c0 hT eg
      dsimp only at HX
      have own := HO.out
      have BA := below_alloc wr (.cells #[.func (.func g) #[] cb] 41)
      have hBA : Below w.heap.size w (wr.alloc (.cells #[.func (.func g) #[] cb] 41)) := hB.trans (BA.mono hB.size)
      have VC := Vals.new wr 41 #[.func (.func g) #[] cb]
      have ownA := own_keep own BA
      have hlo := own.lt
      have hbase : w.heap.size ≤ (wr.alloc (.cells #[.func (.func g) #[] cb] 41)).heap.size := hBA.size
      have HD := delH_any 42 #[.pointer (some ⟨wr.heap.size, 0, none⟩)] (fun x => !p x) w.heap.size u5 _ l1 _ rfl ownA hbase (by omega) (fun x b W hx hb hG => by
        subst hb
        have hW : Below w.heap.size w W := hBA.grown hG hbase (fun j e => (hlo j e).1)
        have cC : W.cell? ⟨wr.heap.size, 0, none⟩ = some (.func (.func g) #[] cb) := hG.cell (VC.cell 0) (fun e => by have := (hlo _ e.symm).2; simp at this)
        exact match_any wr.heap.size g cb p l x (hmem x hx) w W hW hT eg cC) enter_match
      have HB := Lib.hid hBA
      have hown := hlo
      have HLO := Lib.hid hlo
      clear own ownA BA hBA VC hT hlo HO hmem HF HCC
      go_wp2_with fail
      refine HD.mono ?_
      rintro e w4 ⟨⟨v', rfl, own4⟩, G4⟩
      have B4 : Below w.heap.size w w4 := HB.out.grown G4 hbase (fun j e => (HLO.out j e).1)
      have HO4 : Hid (w4.ownsRow w.heap.size 25 3 v' (keepF (fs.take (i + 1)) l).length (cellsH (keepF (fs.take (i + 1)) l))) := by
        show World.ownsRow _ _ _ _ _ _ _
        rw [HX.out]
        exact own4
      clear own4 G4 HD HX
      go_wp2_with fail
      go_roundw
      case rel => exact ⟨i + 1, by omega, by go_num, HO4, B4⟩
      case measure => simp [intOf]; omega
    · obtain rfl : i = m := by omega
      have HO2 : Hid (wr.ownsRow w.heap.size 25 3 u5 (keepF fs l).length (cellsH (keepF fs l))) := by
        have := HO.out
        rw [List.take_of_length_le (by omega)] at this
        exact this
      clear HO own1
      go_wp2_with fail
      go_ret
      exact ⟨⟨_, rfl, HO2.out⟩, hB⟩
end Go.Proofs.Ytkckdombcnifnaa
