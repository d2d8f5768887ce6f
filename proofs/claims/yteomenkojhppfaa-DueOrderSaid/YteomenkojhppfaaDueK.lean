/-
  Walks that communicate, in one goroutine: a send with room, a receive from what lies ready, a select whose default is taken.
-/
import Derived.Test.YteomenkojhppfaaRows
import Derived.WalkKit
import Derived.Conc.LoneCalls
import Derived.Conc.LoneSelectN
namespace Go.Proofs.Yteomenkojhppfaa
open Go.RowKit Go.Conc
set_option linter.unusedVariables false

/-- a piece of code, walked in the frame of an ordinary call -/
def NWp (c : Code) (Q : Exit → Act → World → Prop) (a : Act) (w : World) : Prop :=
  ∀ b : Frame, b.kind = .normal → ∀ k cs, ∃ e a' w', Q e a' w' ∧ Arrives Try.prog (lone (b.at a (.code c :: k)) cs w) b k cs e a' w'
/-- the rest of a region, walked so -/
def NOps (ops : Array Oper) (Q : Exit → Act → World → Prop) (l : List Nat) (a : Act) (w : World) : Prop :=
  ∀ b : Frame, b.kind = .normal → ∀ k cs, ∃ e a' w', Q e a' w' ∧ Arrives Try.prog (lone (b.at a (.inRegion ops l :: k)) cs w) b k cs e a' w'
variable {Q : Exit → Act → World → Prop} {a : Act} {w : World}
theorem nwp_of {c : Code} (h : c.wp Try.prog Q a w) : NWp c Q a w := fun b _ k cs => h b k cs
theorem then_off {K : Act → World → Prop} {e : Exit} {a : Act} {w : World} (he : e ≠ .normal) (h : Exit.then K Q e a w) : Q e a w := by
  cases e <;> first | exact absurd rfl he | exact h
theorem nwp_seq {x y : Code} (h : NWp x (Exit.then (NWp y Q) Q) a w) : NWp (.seq x y) Q a w := by
  intro b hb k cs
  obtain ⟨e, a1, w1, hq, harr⟩ := h b hb (.code y :: k) cs
  by_cases he : e = .normal
  · subst he
    obtain ⟨e2, a2, w2, q2, r2⟩ := hq b hb k cs
    exact ⟨e2, a2, w2, q2, .of_steps (.head step_seq harr) r2⟩
  · exact ⟨e, a1, w1, then_off he hq, .of_steps (.one step_seq) (.pass (x := .code y) rfl (fun _ _ => .inl he) harr)⟩
theorem nwp_cond {c : Operand} {x y : Code} {t : Bool} (hc : a.eval c = .bool t) (h : NWp (if t then x else y) Q a w) : NWp (.cond c x y) Q a w := by
  intro b hb k cs
  obtain ⟨e, a1, w1, hq, harr⟩ := h b hb k cs
  exact ⟨e, a1, w1, hq, .of_steps (.one (step_cond hc)) harr⟩
theorem nwp_block {id : Nat} {c : Code} (h : NWp c (Exit.inBlock id Q) a w) : NWp (.block id c) Q a w := by
  intro b hb k cs
  obtain ⟨e, a1, w1, hq, harr⟩ := h b hb (.inBlock id :: k) cs
  cases e with
  | normal => exact ⟨.normal, a1, w1, hq, .head step_block (Steps.trans harr (.one step_inBlock))⟩
  | exit j =>
    by_cases hj : j = id
    · subst hj
      exact ⟨.normal, a1, w1, by simpa [Exit.inBlock] using hq, .head step_block (harr k (by simp [exitTo]))⟩
    · refine ⟨.exit j, a1, w1, by simpa [Exit.inBlock, hj] using hq, fun k' hk => .head step_block (harr k' ?_)⟩
      have hji : (id == j) = false := by simp; exact fun h => hj h.symm
      simp [exitTo, hji, hk]
  | goto l => exact ⟨_, a1, w1, hq, fun k' hk => .head step_block (harr k' (by simp [gotoIn, hk]))⟩
  | ret => exact ⟨_, a1, w1, hq, .of_steps (.one step_block) harr⟩
  | panic ch => exact ⟨_, a1, w1, hq, .of_steps (.one step_block) harr⟩
  | outgrown => exact ⟨_, a1, w1, hq, .of_steps (b := b) (k := k) (cs := cs) (e := .outgrown) (.one step_block) harr⟩
theorem nwp_loop {c : Code} (I : Nat → Act → World → Prop) (n : Nat) (h0 : I n a w)
    (round : ∀ m a w, I m a w → NWp c (Exit.then (fun a' w' => ∃ m', m' < m ∧ I m' a' w') Q) a w) : NWp (.loop c) Q a w := by
  intro b hb k cs
  have key : ∀ m a w, I m a w → ∃ e a' w', Q e a' w' ∧ Arrives Try.prog (lone (b.at a (.code c :: .inLoop c :: k)) cs w) b k cs e a' w' := by
    intro m
    induction m using Nat.strongRecOn with
    | _ m ih =>
      intro a w hI
      obtain ⟨e, a1, w1, hq, harr⟩ := round m a w hI b hb (.inLoop c :: k) cs
      by_cases he : e = .normal
      · subst he
        obtain ⟨m', hlt, hI'⟩ := hq
        obtain ⟨e2, a2, w2, q2, r2⟩ := ih m' hlt a1 w1 hI'
        exact ⟨e2, a2, w2, q2, .of_steps (Steps.trans harr (.one step_inLoop)) r2⟩
      · exact ⟨e, a1, w1, then_off he hq, .pass (x := .inLoop c) rfl (fun _ _ => .inl he) harr⟩
  obtain ⟨e, a', w', hq, harr⟩ := key n a w h0
  exact ⟨e, a', w', hq, .of_steps (.one step_loop) harr⟩
theorem nwp_region {id : Nat} {ops : Array Oper} (h : NOps ops Q (List.range ops.size) a w) : NWp (.region id ops false) Q a w := by
  intro b hb k cs
  obtain ⟨e, a1, w1, hq, harr⟩ := h b hb k cs
  exact ⟨e, a1, w1, hq, .of_steps (.one step_region) harr⟩
theorem nops_nil {ops : Array Oper} (h : Q .normal a w) : NOps ops Q [] a w := fun b _ k cs => ⟨.normal, a, w, h, .one step_region_end⟩
theorem nops_of {ops : Array Oper} {l : List Nat} (h : wpOps Try.prog ops Q l a w) : NOps ops Q l a w := fun b _ k cs => wp_ops l a w h b k cs
theorem nops_step {ops : Array Oper} {i : Nat} {rest : List Nat} {o : Oper} {v : Value} {w1 : World} (ho : ops[i]? = some o)
    (hs : ∀ (b : Frame) k cs, b.kind = .normal → step Try.prog (lone (b.at a (.inRegion ops (i :: rest) :: k)) cs w) = .next (lone ((b.at a (.inRegion ops (i :: rest) :: k)).finish v) cs w1))
    (h : NOps ops Q rest (a.put o.dst v) w1) : NOps ops Q (i :: rest) a w := by
  intro b hb k cs
  obtain ⟨e, a1, w2, hq, harr⟩ := h b hb k cs
  have := hs b k cs hb
  rw [Frame.finish_at, ho] at this
  exact ⟨e, a1, w2, hq, .of_steps (.one this) harr⟩
theorem nops_value {ops : Array Oper} {i : Nat} {rest : List Nat} {o : Oper} {v : Value} {w1 : World} (ho : ops[i]? = some o) (hw : Region.wanted o (yielded ops a.tmps) = true)
    (hr : (execOp a.eval o).run Try.prog w = .ok (.value v) w1) (h : NOps ops Q rest (a.put o.dst v) w1) : NOps ops Q (i :: rest) a w :=
  nops_step ho (fun b k cs _ => step_lone_go (by rw [stepG_op ho hw]; simp [stepG.apply, hr])) h
/-- a send into a buffer that has room -/
theorem nops_send {ops : Array Oper} {i : Nat} {rest : List Nat} {o : Oper} {c cap s r : Nat} {buf : Array Value} {v z : Value} (ho : ops[i]? = some o) (hw : Region.wanted o (yielded ops a.tmps) = true)
    (hr : (execOp a.eval o).run Try.prog w = .ok (.comm #[scase c v z] true .send) w) (hc : w.heap[c]? = some (.chan cap buf false s r false)) (hroom : buf.size < cap)
    (h : NOps ops Q rest (a.put o.dst undef) (w.setChan c cap (buf.push v) false (s + 1) r false)) : NOps ops Q (i :: rest) a w :=
  nops_step ho (fun b k cs hb => step_lone_send_room (stepG_comm ho hw (by rw [hb]; decide) hr) hc hroom) h
theorem got_one (c : Nat) (z v : Value) (ok : Bool) : commResult #[rcase c z] .select ((0 : Nat) : Int) v ok = .tuple #[goInt 0, .bool ok, v] := by
  simp [commResult, rcase, List.zipIdx_cons]
/-- a select of one receive, of what lies ready -/
theorem nops_ready {ops : Array Oper} {i : Nat} {rest : List Nat} {o : Oper} {c cap s r : Nat} {buf : Array Value} {z : Value} (ho : ops[i]? = some o) (hw : Region.wanted o (yielded ops a.tmps) = true)
    (hr : (execOp a.eval o).run Try.prog w = .ok (.comm #[rcase c z] false .select) w) (hc : w.heap[c]? = some (.chan cap buf false s r false)) (hsome : 0 < buf.size)
    (h : NOps ops Q rest (a.put o.dst (.tuple #[goInt 0, .bool true, buf.getD 0 undef])) (w.setChan c cap (buf.extract 1 buf.size) false s (r + 1) false)) : NOps ops Q (i :: rest) a w :=
  nops_step ho (fun b k cs hb => by
    have := step_lone_sel_recv_buf (k := 0) (stepG_comm (main := true) (rest := rest) (k := k) (cs := cs) ho hw (by rw [hb]; decide) hr) rfl (fun m c' hm hc' => by cases m with | zero => exact absurd rfl hm | succ m => simp at hc') hc hsome
    rw [got_one] at this
    exact this) h
/-- a select of one receive, where nothing lies ready -/
theorem nops_default {ops : Array Oper} {i : Nat} {rest : List Nat} {o : Oper} {c cap s r : Nat} {z : Value} (ho : ops[i]? = some o) (hw : Region.wanted o (yielded ops a.tmps) = true)
    (hr : (execOp a.eval o).run Try.prog w = .ok (.comm #[rcase c z] false .select) w) (hc : w.heap[c]? = some (.chan cap #[] false s r false))
    (h : NOps ops Q rest (a.put o.dst (.tuple #[goInt (-1), .bool false, z])) w) : NOps ops Q (i :: rest) a w :=
  nops_step ho (fun b k cs hb => step_lone_select_default (stepG_comm ho hw (by rw [hb]; decide) hr) hc) h
theorem calls_of_nwp {f : FuncId} {fn : Func} {c : Code} {args : Array Value} {w : World} {R : Value → World → Prop}
    (hf : Try.prog.funcs[f]? = some fn) (hb : fn.body = some c)
    (h : NWp c (fun e a w' => e = .ret ∧ a.defers = [] ∧ ∃ v, (results fn a.tmps).run Try.prog w' = .ok v w' ∧ R v w') { tmps := args ++ Array.replicate (fn.ntmps - args.size) undef, defers := [] } w) :
    Calls Try.prog f args w fun e w' => ∃ v, e = .returned v ∧ R v w' := by
  intro cs
  obtain ⟨b, hbd⟩ : ∃ b : Frame, b = { (default : Frame) with fn := f, kind := .normal } := ⟨_, rfl⟩
  have henter : Frame.enter Try.prog f args .normal = b.at { tmps := args ++ Array.replicate (fn.ntmps - args.size) undef, defers := [] } [.code c] := by
    simp [Frame.enter, Frame.at, hf, hb, hbd]
  obtain ⟨e, a', w', ⟨rfl, hd, v, hr, hR⟩, todo, hs⟩ := h b (by rw [hbd]) [] cs
  rw [← henter] at hs
  refine ⟨.returned v, w', _, ⟨v, rfl, hR⟩, hs, by rw [hbd]; rfl, ?_⟩
  exact ⟨rfl, hd, by rw [hbd]; rfl, fn, by rw [hbd]; exact hf, hr⟩
end Go.Proofs.Yteomenkojhppfaa
