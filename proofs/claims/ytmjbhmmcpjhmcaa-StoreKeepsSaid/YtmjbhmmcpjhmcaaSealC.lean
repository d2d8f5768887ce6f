/-
  Seal with its refusals; whether a text is the one sealed sector of a stamp and a payload; what is torn.
-/
import Derived.Test.YtmjbhmmcpjhmcaaSealB
import Derived.Deep.QuietTactic
import Derived.BigQuiet
namespace Go.Proofs.Ytmjbhmmcpjhmcaa
open Go.RowKit
set_option linter.unusedVariables false

/-- why nothing is sealed -/
def sealE (g n : Int) (p : ByteArray) : Int := if stampB g n = true then (if p.size ≤ 96 then 0 else 2) else 1
/-- what is sealed, or nothing -/
def sealR (g n : Int) (p : ByteArray) : ByteArray := if sealE g n p = 0 then sealS g n p else ⟨#[]⟩
theorem sealE_ok {g n : Int} {p : ByteArray} (hst : stampB g n = true) (hp : p.size ≤ 96) : sealE g n p = 0 := by unfold sealE; rw [if_pos hst, if_pos hp]
theorem sealR_ok {g n : Int} {p : ByteArray} (hst : stampB g n = true) (hp : p.size ≤ 96) : sealR g n p = sealS g n p := by unfold sealR; rw [if_pos (sealE_ok hst hp)]
set_option maxRecDepth 100000 in
set_option maxHeartbeats 800000 in
theorem seal_any (g n : Int) (p : ByteArray) (w : World) (hm : p.size ≤ maxLen) :
    Calls Try.prog 76 #[.int .i64 g, .int .i64 n, .string p] w fun e w' => e = .returned (.tuple #[.string (sealR g n p), .int .i64 (sealE g n p)]) ∧ Below w.heap.size w w' := by
  unfold maxLen at hm
  cases hst : stampB g n
  · have e1 : sealE g n p = 1 := by unfold sealE; rw [hst]; rfl
    have e2 : sealR g n p = ⟨#[]⟩ := by unfold sealR; rw [e1]; rfl
    rw [e1, e2]
    clear e1 e2
    have HS := Lib.hid hst
    clear hst
    go_enter Try.func76, Try.ntmps76
    go_wp2_with fail
    refine (isStamp_any _ _ _).mono ?_
    rintro e w' ⟨rfl, rfl⟩
    rw [HS.out]
    go_wp2_with fail
    go_ret2
    exact ⟨rfl, Below.refl _ _⟩
  · by_cases hp : p.size ≤ 96
    · rw [sealE_ok hst hp, sealR_ok hst hp]
      exact seal_ok g n p w hst hp
    · have e1 : sealE g n p = 2 := by unfold sealE; rw [if_pos hst, if_neg hp]
      have e2 : sealR g n p = ⟨#[]⟩ := by unfold sealR; rw [e1]; rfl
      rw [e1, e2]
      clear e1 e2
      have HS := Lib.hid hst
      clear hst
      have hp1 : (96 : Int) < (p.size : Int) := by omega
      go_enter Try.func76, Try.ntmps76
      go_wp2_with fail
      refine (isStamp_any _ _ _).mono ?_
      rintro e w' ⟨rfl, rfl⟩
      rw [HS.out]
      go_wp2_with fail
      go_ret2
      exact ⟨rfl, Below.refl _ _⟩

/-- is the text the sealed sector of this stamp and payload? -/
def sealedB (t : ByteArray) (g n : Int) (p : ByteArray) : Bool := stampB g n && decide (sealS g n p = t)
theorem list_ne {a b : ByteArray} (h : ¬ a = b) : (a.toList == b.toList) = false := by
  rw [beq_eq_false_iff_ne]
  exact fun e => h (toList_inj e)
theorem list_nb {a b : ByteArray} (h : ¬ a = b) : (a.toList != b.toList) = true := by
  rw [bne, list_ne h]
  rfl
set_option maxRecDepth 100000 in
set_option maxHeartbeats 800000 in
theorem isSealed_any (t : ByteArray) (g n : Int) (p : ByteArray) (w : World) (hp : p.size ≤ 96) :
    Calls Try.prog 88 #[.string t, .int .i64 g, .int .i64 n, .string p] w fun e w' => e = .returned (.bool (sealedB t g n p)) ∧ Below w.heap.size w w' := by
  cases hst : stampB g n
  · have e1 : Hid (sealE g n p = 1) := by show _ = _; unfold sealE; rw [hst]; rfl
    have HS := Lib.hid hst
    clear hst
    go_enter Try.func88, Try.ntmps88
    go_wp2_with fail
    refine (seal_any _ _ _ _ (by unfold maxLen; omega)).mono ?_
    rintro e w1 ⟨rfl, hB⟩
    rw [e1.out]
    go_wp2_with fail
    go_ret
    exact ⟨ret_bool (by unfold sealedB; rw [HS.out]; rfl), hB⟩
  · have e1 : Hid (sealE g n p = 0) := sealE_ok hst hp
    have e2 : Hid (sealR g n p = sealS g n p) := sealR_ok hst hp
    have HS := Lib.hid hst
    clear hst
    by_cases ht : sealS g n p = t
    · have HT := Lib.hid ht
      clear ht
      go_enter Try.func88, Try.ntmps88
      go_wp2_with fail
      refine (seal_any _ _ _ _ (by unfold maxLen; omega)).mono ?_
      rintro e w1 ⟨rfl, hB⟩
      rw [e1.out, e2.out, HT.out]
      go_wp2_with fail
      go_ret
      exact ⟨ret_bool (by unfold sealedB; rw [HS.out, decide_eq_true HT.out]; rfl), hB⟩
    · have hne := list_ne ht
      have HT := Lib.hid ht
      clear ht
      go_enter Try.func88, Try.ntmps88
      go_wp2_with fail
      refine (seal_any _ _ _ _ (by unfold maxLen; omega)).mono ?_
      rintro e w1 ⟨rfl, hB⟩
      rw [e1.out, e2.out]
      go_wp2_with fail
      go_ret
      exact ⟨ret_bool (by unfold sealedB; rw [HS.out, decide_eq_false HT.out]; rfl), hB⟩

/-- why nothing is torn -/
def tornE (old text : ByteArray) (k : Int) : Int := if old.size = 128 ∧ text.size = 128 then (if 0 ≤ k ∧ k ≤ 128 then 0 else 1) else 2
/-- what is torn, or nothing -/
def tornR (old text : ByteArray) (k : Int) : ByteArray := if tornE old text k = 0 then tornS old text k.toNat else ⟨#[]⟩
theorem torn_no {old text : ByteArray} {k x : Int} (h : tornE old text k = x) (hx : x ≠ 0) : tornR old text k = ⟨#[]⟩ := by unfold tornR; rw [h, if_neg hx]
end Go.Proofs.Ytmjbhmmcpjhmcaa
