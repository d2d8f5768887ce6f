/-
  For all two texts (their first 300 bytes), the sum of both is that of the second behind that of the first, 0 to 2^32 - 1, and four bytes tell it; no condition.
-/
import Derived.Test.YtnbilfknplflcaaRows
import Derived.Test.YtnbilfknplflcaaMore
import Derived.WalkKit
import Derived.ProofKit
import Derived.OpenShut
import Derived.ShutString
import Derived.ChangeOld
import Derived.Below
import Derived.WalkLawsBesides
namespace Go.Proofs.Ytnbilfknplflcaa.crcJoins
open Math Go.ChangeShapes Go.WideShapes Go.ChangeAt Go.RowKit
open Go.ChangeMaps (open_string shut_string)
set_option linter.unusedVariables false

theorem own : ownKnob Try.prog.godebug = none := by kernel_rfl

theorem bl_append (a b : ByteArray) : bl (a ++ b) = bl a ++ bl b := by
  unfold bl; rw [ByteArray.data_append, Array.toList_append, List.map_append]
theorem low32_nat {n : Nat} (h : n < 4294967296) : low32 (n : Int) = n := by unfold low32; omega
theorem joins (a b : ByteArray) : moreN 0 (bl (a ++ b)) = moreN (moreN 0 (bl a) : Nat) (bl b) := by
  have h := low32_nat (moreN_lt 0 a)
  rw [bl_append]
  unfold moreN at h ⊢
  rw [reg_append, h, not32_not32]
theorem more_nil {n : Nat} (h : n < 4294967296) : moreN (n : Int) (bl ⟨#[]⟩) = n := by
  unfold moreN
  rw [low32_nat h]
  exact not32_not32 n
theorem four_inj {a b : Nat} (ha : a < 4294967296) (hb : b < 4294967296) (h : fourS (a : Int) = fourS (b : Int)) : a = b := by
  have h1 := congrArg (fun s : ByteArray => s.data.toList.map UInt8.toNat) h
  simp only [fourS, strOfNums_data, List.map_cons, List.map_nil, List.cons.injEq, and_true, UInt8.toNat_ofNat'] at h1
  omega

theorem toList_inj {a b : ByteArray} (h : a.toList = b.toList) : a = b := by
  rw [ByteArray.toList_eq, ByteArray.toList_eq] at h
  exact ByteArray.ext (Array.toList_inj.1 h)
theorem four_size (n : Int) : (fourS n).size = 4 := strOfNums_size _
theorem facts (a b : ByteArray) : 0 ≤ ((moreN 0 (bl a) : Nat) : Int) ∧ ((moreN 0 (bl a) : Nat) : Int) < 4294967296 ∧
    Hid (((moreN ((moreN 0 (bl a) : Nat) : Int) (bl ⟨#[]⟩) : Nat) : Int) = ((moreN 0 (bl a) : Nat) : Int)) ∧
    Hid (((fourS ((moreN 0 (bl a) : Nat) : Int)).toList == (fourS ((moreN 0 (bl b) : Nat) : Int)).toList) = (((moreN 0 (bl a) : Nat) : Int) == ((moreN 0 (bl b) : Nat) : Int))) := by
  have hS := moreN_lt 0 a
  have hT := moreN_lt 0 b
  refine ⟨by omega, by omega, ?_, ?_⟩
  · show _ = _
    rw [more_nil hS]
  · show _ = _
    rw [Bool.eq_iff_iff]
    simp only [beq_iff_eq]
    constructor
    · intro h
      rw [four_inj hS hT (toList_inj h)]
    · intro h
      rw [h]
set_option maxHeartbeats 800000 in
set_option maxRecDepth 100000 in
theorem walk (a0 : ByteArray) (a1 : ByteArray) (w0 : a0.size ≤ maxLen) (w1 : a1.size ≤ maxLen) (w : World) :
    Calls Try.prog 4 #[.string a0, .string a1] w fun e w' => e = .returned (.bool true) ∧ Below w.heap.size w w' := by
  have hm0 := Lib.hid (fewS_max a0)
  have hm1 := Lib.hid (fewS_max a1)
  have hm2 : Hid ((fewS a0 ++ fewS a1).size ≤ maxLen) := by
    have h0 := fewS_size a0
    have h1 := fewS_size a1
    show (fewS a0 ++ fewS a1).size ≤ maxLen
    rw [ByteArray.size_append]
    unfold maxLen
    omega
  have hz0 := fewS_size a0
  have hz1 := fewS_size a1
  go_enter Try.func4, Try.ntmps4
  go_wp2_with fail
  refine (few_any _ _ w0).mono ?_
  rintro e w' ⟨rfl, rfl⟩
  go_wp2_with fail
  refine (few_any _ _ w1).mono ?_
  rintro e w' ⟨rfl, rfl⟩
  go_wp2_with fail
  refine (sum_any _ _ hm0.out).mono ?_
  rintro e w1 ⟨rfl, B1⟩
  go_wp2_with fail
  refine (sum_any _ _ hm1.out).mono ?_
  rintro e w2 ⟨rfl, B2⟩
  go_wp2_with fail
  refine (sum_any _ _ hm2.out).mono ?_
  rintro e w3 ⟨rfl, B3⟩
  rw [joins]
  go_wp2_with fail
  refine (more_any _ _ _ hm1.out).mono ?_
  rintro e w4 ⟨rfl, B4⟩
  obtain ⟨hS0, hS1, HN, H4⟩ := facts (fewS a0) (fewS a1)
  generalize ((moreN 0 (bl (fewS a0)) : Nat) : Int) = S at *
  generalize ((moreN 0 (bl (fewS a1)) : Nat) : Int) = T at *
  go_wp2_with fail
  refine (alive_any _).mono ?_
  rintro e w5 ⟨rfl, B5⟩
  go_wp2_with fail
  refine (four_any _ _).mono ?_
  rintro e w6 ⟨rfl, B6⟩
  go_wp2_with fail
  refine (four_any _ _).mono ?_
  rintro e w7 ⟨rfl, B7⟩
  have h4 := H4.out
  go_wp2_with fail
  clear h4
  refine (four_any _ _).mono ?_
  rintro e w8 ⟨rfl, B8⟩
  have h5 := four_size S
  go_wp2_with fail
  clear h5
  refine (more_any _ _ _ (by unfold maxLen; decide +kernel)).mono ?_
  rintro e w9 ⟨rfl, B9⟩
  rw [HN.out]
  go_wp2_with fail
  go_ret
  have s1 := B1.size
  have s2 := B2.size
  have s3 := B3.size
  have s4 := B4.size
  have s5 := B5.size
  have s6 := B6.size
  have s7 := B7.size
  have s8 := B8.size
  exact ⟨rfl, (((((((B1.trans (B2.mono (by omega))).trans (B3.mono (by omega))).trans (B4.mono (by omega))).trans (B5.mono (by omega))).trans (B6.mono (by omega))).trans (B7.mono (by omega))).trans (B8.mono (by omega))).trans (B9.mono (by omega))⟩

set_option maxRecDepth 100000 in
theorem lifted (os : Os) (started : os.Started) (H : Type) (enc : TypeId × Value → H) :
    ReturnsInHanded {} Try.checked os 4 .any (Rows.crcJoinsSpec.pre6 enc Try.prog Try.f4 Rows.crcJoinsRow.domain false) (Rows.crcJoinsSpec.post enc Try.prog Try.f4 false true false false) := by
  refine returnsInHanded_of_change (C := Try.checked) own started (by kernel_rfl) Try.func4
    (ChangeSpec.witness6 (enc := enc) (C := Try.checked) false ⟨#[], #[.string ByteArray.empty, .string ByteArray.empty], []⟩ 8 (by kernel_rfl) (by kernel_rfl) (by kernel_rfl) (by kernel_rfl)) ?_
  intro W base args ds gs before hval0 hW hcnd _
  have hval : ∀ (j : Nat) t v, Try.f4.params[j]? = some t → args[j]? = some v → Value.okWide Try.prog W .any base t v := hval0
  have hW' := hW
  obtain ⟨p, q, hA0, hV, rfl, hfz, hnd⟩ := hW
  have hA : DataW.TrodAll enc Try.prog W 0 (fun _ => true) true Try.f4.params.toList args.toList ds p := hA0
  rw [Try.params4] at hA hval
  obtain ⟨v0, vs0, d0, ds0, p0, q0, hargs, rfl, rfl, h0, r0⟩ := trodAll_cons hA
  obtain ⟨v1, vs1, d1, ds1, p1, q1, rfl, rfl, rfl, h1, r1⟩ := trodAll_cons r0
  obtain ⟨rfl, rfl, rfl⟩ := trodAll_nil r1
  obtain rfl : args = #[v0, v1] := by cases args; simp_all
  obtain ⟨rfl, rfl⟩ := trodVars_none hV
  obtain ⟨a0, rfl, rfl, rfl, w0⟩ := open_string Try.underlying9 (hval 0 9 v0 rfl rfl) h0
  obtain ⟨a1, rfl, rfl, rfl, w1⟩ := open_string Try.underlying9 (hval 1 9 v1 rfl rfl) h1
  clear hA0 hval0
  simp only [List.append_nil] at hW'
  refine (walk a0 a1 w0 w1 W).mono fun e W' ⟨he, hg⟩ => ?_
  subst he
  exact ⟨_, rfl, _, _, _, [], _, [], hW', trodAll_mk1 (shut_bool Try.underlying4 _), (trodAll_cons_mk (shut_string Try.underlying9 w0) (trodAll_cons_mk (shut_string Try.underlying9 w1) trodAll_mk0)), rfl, hg.frame _, fun h => by cases h⟩

theorem over : Rows.crcJoinsRow.holds Try.pinned (OpenSpec.ofChange Rows.crcJoinsSpec) :=
  OpenClaim.holds_of_wide 4 Try.f4 rfl rfl rfl rfl rfl rfl rfl ⟨rfl, rfl, rfl, rfl, rfl⟩ rfl rfl rfl rfl rfl (by kernel_rfl) Try.func4 (by kernel_rfl)
    (of_decide_eq_true (by kernel_rfl)) (by unfold Func.isWrapper; first | (rw [if_pos (by decide +kernel)]; kernel_rfl) | (rw [if_neg (by decide +kernel)]; exact ⟨rfl, rfl⟩))
    (fun os started H enc _ => lifted os started H enc)

theorem proved : Rows.CrcJoinsSaid :=
  over
#print axioms proved
end Go.Proofs.Ytnbilfknplflcaa.crcJoins
