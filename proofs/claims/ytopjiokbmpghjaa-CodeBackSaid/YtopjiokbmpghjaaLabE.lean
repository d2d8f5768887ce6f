/-
  Labels: two of them, held against each other.
-/
import Derived.Test.YtopjiokbmpghjaaLabN
import Derived.Laws.StructEq
namespace Go.Proofs.Ytopjiokbmpghjaa
open Go.RowKit Go.Shelf
set_option linter.unusedVariables false

theorem undL : Try.prog.underlying 57 = some (.struct (Try.prog.fieldsOf 57)) := by kernel_rfl
theorem stoodL : Try.prog.stoodInHeld 57 = false := by kernel_rfl
theorem fieldsL : ((Try.prog.fieldsOf 57).toList.map fun f => (f.name, f.type, f.offset)) = [("Name", 9, 0), ("Value", 9, 1)] := by kernel_rfl
theorem undS : Try.prog.underlying 9 = some .string := by kernel_rfl
set_option maxHeartbeats 800000 in
theorem eqlL (a b s t : ByteArray) (w : World) :
    (binOp .eql 57 (.agg #[.string a, .string b]) (.agg #[.string s, .string t])).run Try.prog w = .ok (.bool (a.toList == s.toList && b.toList == t.toList)) w := by
  have hf := fieldsL
  rw [run_eql_struct, run_equalIn_struct (d := 9999) w _ _ _ undL stoodL]
  generalize (Try.prog.fieldsOf 57).toList = fs at *
  rcases fs with _ | ⟨f, _ | ⟨g, _ | ⟨h, r⟩⟩⟩
  · simp at hf
  · simp at hf
  · simp only [List.map_cons, List.map_nil, List.cons.injEq, Prod.mk.injEq, and_true] at hf
    obtain ⟨⟨f1, f2, f3⟩, g1, g2, g3⟩ := hf
    have hs := Try.sizeOf9
    have ha := Try.isAgg9
    simp only [Op.eqFields, f1, f2, f3, g1, g2, g3]
    cases h1 : (a.toList == s.toList) <;> cases h2 : (b.toList == t.toList) <;> simp [Sem.run_bind, part, hs, ha, run_equalIn_string _ _ _ _ _ undS, h1, h2]
  · simp at hf
end Go.Proofs.Ytopjiokbmpghjaa
