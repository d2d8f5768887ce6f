/-
  Receivers: one, held against itself.
-/
import Derived.Test.YtbihaoibmkdfjaaGreatDoorRfcF
import Derived.Test.YtbihaoibmkdfjaaGreatDoorMtX
namespace Go.Proofs.YtbihaoibmkdfjaaGreatDoor
open Go.RowKit Go.Shelf
set_option linter.unusedVariables false

theorem undB : Tryz.prog.underlying 50 = some (.struct (Tryz.prog.fieldsOf 50)) := by kernel_rfl
theorem stoodB : Tryz.prog.stoodInHeld 50 = false := by kernel_rfl
theorem fieldsB : ((Tryz.prog.fieldsOf 50).toList.map fun f => (f.name, f.type, f.offset)) = [("Base", 3, 0), ("Top", 3, 1), ("Jitter", 3, 2)] := by kernel_rfl
theorem undR : Tryz.prog.underlying 52 = some (.struct (Tryz.prog.fieldsOf 52)) := by kernel_rfl
theorem stoodR : Tryz.prog.stoodInHeld 52 = false := by kernel_rfl
theorem fieldsR : ((Tryz.prog.fieldsOf 52).toList.map fun f => (f.name, f.type, f.offset)) = [("Name", 9, 0), ("Back", 50, 1), ("Tries", 3, 4), ("Fails", 3, 5), ("Open", 3, 6), ("Burst", 3, 7), ("Every", 3, 8)] := by kernel_rfl
theorem eqF_step {P : Program} {d : Nat} {xs : Array Value} {f : Field} {fs : List Field} {w : World} {v : Value} (hn : f.name ≠ "_") (hp : (part f.type xs f.offset).run P w = .ok v w) (he : (Op.equalIn d f.type v v).run P w = .ok true w) :
    (Op.eqFields d xs xs (f :: fs)).run P w = (Op.eqFields d xs xs fs).run P w := by
  rw [Op.eqFields, if_pos hn]
  simp [Sem.run_bind, hp, he]
theorem eqF_nil {P : Program} {d : Nat} {xs : Array Value} {w : World} : (Op.eqFields d xs xs []).run P w = .ok true w := by simp [Op.eqFields]
theorem eqI_same (d : Nat) (x : Int) (w : World) : (Op.equalIn (d + 1) 3 (.int .i64 x) (.int .i64 x)).run Tryz.prog w = .ok true w := by rw [run_equalIn_int _ _ _ _ _ _ _ undI]; simp
theorem eqS_same (d : Nat) (x : ByteArray) (w : World) : (Op.equalIn (d + 1) 9 (.string x) (.string x)).run Tryz.prog w = .ok true w := by rw [run_equalIn_string _ _ _ _ _ undS]; simp
set_option maxHeartbeats 1600000 in
theorem eqB_same (d : Nat) (b t j : Int) (w : World) : (Op.equalIn (d + 2) 50 (.agg #[.int .i64 b, .int .i64 t, .int .i64 j]) (.agg #[.int .i64 b, .int .i64 t, .int .i64 j])).run Tryz.prog w = .ok true w := by
  have hf := fieldsB
  rw [run_equalIn_struct (d := d + 1) w _ _ _ undB stoodB]
  have is := Tryz.sizeOf3
  have ia := Tryz.isAgg3
  generalize (Tryz.prog.fieldsOf 50).toList = fs at *
  rcases fs with _ | ⟨f, _ | ⟨g, _ | ⟨h, _ | ⟨r, r'⟩⟩⟩⟩
  · simp at hf
  · simp at hf
  · simp at hf
  · simp only [List.map_cons, List.map_nil, List.cons.injEq, Prod.mk.injEq, and_true] at hf
    obtain ⟨⟨f1, f2, f3⟩, ⟨g1, g2, g3⟩, h1, h2, h3⟩ := hf
    rw [eqF_step (v := .int .i64 b) (by rw [f1]; decide) (by rw [f2, f3]; simp [part, is, ia]) (by rw [f2]; exact eqI_same d b w)]
    rw [eqF_step (v := .int .i64 t) (by rw [g1]; decide) (by rw [g2, g3]; simp [part, is, ia]) (by rw [g2]; exact eqI_same d t w)]
    rw [eqF_step (v := .int .i64 j) (by rw [h1]; decide) (by rw [h2, h3]; simp [part, is, ia]) (by rw [h2]; exact eqI_same d j w)]
    exact eqF_nil
  · simp at hf
set_option maxHeartbeats 1600000 in
theorem neqR_same (r : R9) (w : World) : (binOp .neq 52 (aggR r) (aggR r)).run Tryz.prog w = .ok (.bool false) w := by
  obtain ⟨s, ba, tp, ji, tr, fa, op, bu, ev⟩ := r
  have hf := fieldsR
  dsimp only [aggR]
  rw [run_neq_struct, run_equalIn_struct (d := 9999) w _ _ _ undR stoodR]
  have is := Tryz.sizeOf3
  have ia := Tryz.isAgg3
  have hs := Tryz.sizeOf9
  have ha := Tryz.isAgg9
  have bs := Tryz.sizeOf50
  have ba2 := Tryz.isAgg50
  generalize (Tryz.prog.fieldsOf 52).toList = fs at *
  rcases fs with _ | ⟨a, _ | ⟨b, _ | ⟨c, _ | ⟨d, _ | ⟨e, _ | ⟨f, _ | ⟨g, _ | ⟨h, r'⟩⟩⟩⟩⟩⟩⟩⟩
  · simp at hf
  · simp at hf
  · simp at hf
  · simp at hf
  · simp at hf
  · simp at hf
  · simp at hf
  · simp only [List.map_cons, List.map_nil, List.cons.injEq, Prod.mk.injEq, and_true] at hf
    obtain ⟨⟨a1, a2, a3⟩, ⟨b1, b2, b3⟩, ⟨c1, c2, c3⟩, ⟨d1, d2, d3⟩, ⟨e1, e2, e3⟩, ⟨f1, f2, f3⟩, g1, g2, g3⟩ := hf
    rw [eqF_step (v := .string s) (by rw [a1]; decide) (by rw [a2, a3]; simp [part, hs, ha]) (by rw [a2]; exact eqS_same 9998 s w)]
    rw [eqF_step (v := .agg #[.int .i64 ba, .int .i64 tp, .int .i64 ji]) (by rw [b1]; decide) (by rw [b2, b3]; simp [part, bs, ba2]) (by rw [b2]; exact eqB_same 9997 ba tp ji w)]
    rw [eqF_step (v := .int .i64 tr) (by rw [c1]; decide) (by rw [c2, c3]; simp [part, is, ia]) (by rw [c2]; exact eqI_same 9998 tr w)]
    rw [eqF_step (v := .int .i64 fa) (by rw [d1]; decide) (by rw [d2, d3]; simp [part, is, ia]) (by rw [d2]; exact eqI_same 9998 fa w)]
    rw [eqF_step (v := .int .i64 op) (by rw [e1]; decide) (by rw [e2, e3]; simp [part, is, ia]) (by rw [e2]; exact eqI_same 9998 op w)]
    rw [eqF_step (v := .int .i64 bu) (by rw [f1]; decide) (by rw [f2, f3]; simp [part, is, ia]) (by rw [f2]; exact eqI_same 9998 bu w)]
    rw [eqF_step (v := .int .i64 ev) (by rw [g1]; decide) (by rw [g2, g3]; simp [part, is, ia]) (by rw [g2]; exact eqI_same 9998 ev w)]
    rw [eqF_nil]
    rfl
  · simp at hf
end Go.Proofs.YtbihaoibmkdfjaaGreatDoor
