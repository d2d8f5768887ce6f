/-
  The finger of labels, piece by piece; the document's own, as one text.
-/
import Derived.Test.YtkffaimemmgfeaaDoorFinD
import Derived.Test.YtkffaimemmgfeaaDoorLabT
namespace Go.Proofs.YtkffaimemmgfeaaDoor
open Go.RowKit Go.Shelf Fnv
set_option linter.unusedVariables false

def firstN : Nat := 14695981039346656037
theorem first_lt : firstN < M64 := by unfold firstN; rw [M64_is]; omega
theorem first_is : (14695981039346656037 : Int) = (firstN : Int) := rfl
/-- a label behind a hash -/
def labF (h : Nat) (x : L2) : Nat := fnR (fnR (fnR (fnR h (bl x.1)) (bl ⟨#[61]⟩)) (bl x.2)) (bl ⟨#[10]⟩)
theorem labF_lt {h : Nat} {x : L2} (hh : h < M64) : labF h x < M64 := fnR_lt (fnR_lt (fnR_lt (fnR_lt hh)))
def labsF (h : Nat) (l : List L2) : Nat := l.foldl labF h
theorem labsF_lt {l : List L2} {h : Nat} (hh : h < M64) : labsF h l < M64 := by
  induction l generalizing h with
  | nil => exact hh
  | cons b l ih => exact ih (labF_lt hh)
theorem labsF_next (h : Nat) (l : List L2) (k : Nat) (hk : k < l.length) : labF (labsF h (l.take k)) (l.getD k zL) = labsF h (l.take (k + 1)) := by
  rw [takeL_next l k hk]
  unfold labsF
  rw [List.foldl_append, List.foldl_cons, List.foldl_nil]
/-- the text of a label, of labels -/
def labX (x : L2) : List UInt8 := x.1.data.toList ++ [61] ++ x.2.data.toList ++ [10]
def labsX (l : List L2) : List UInt8 := l.flatMap labX
theorem bl_tx (l : List UInt8) : bl (tx l) = l.map UInt8.toNat := by unfold bl; rw [tx_data]
theorem fnR_labX (h : Nat) (x : L2) : fnR h ((labX x).map UInt8.toNat) = labF h x := by
  unfold labX labF
  rw [List.map_append, List.map_append, List.map_append, fnR_append, fnR_append, fnR_append]
  rfl
theorem fnR_labsX (l : List L2) : ∀ h, fnR h ((labsX l).map UInt8.toNat) = labsF h l := by
  induction l with
  | nil => intro h; rfl
  | cons x l ih =>
    intro h
    rw [show labsX (x :: l) = labX x ++ labsX l from rfl, List.map_append, fnR_append, fnR_labX, ih]
    rfl
theorem labsX_next (l : List L2) (k : Nat) (hk : k < l.length) : labsX (l.take (k + 1)) = labsX (l.take k) ++ labX (l.getD k zL) := by
  rw [takeL_next l k hk]
  unfold labsX
  simp
theorem cell_keep {w w' : World} {b o : Nat} {sp : Option Nat} (h : w'.heap[b]? = w.heap[b]?) : w'.cell? ⟨b, o, sp⟩ = w.cell? ⟨b, o, sp⟩ := by
  unfold World.cell?
  rw [h]

/-- labels that may be have short texts, and are few -/
theorem right_small {l : List L2} (h : rightB l = true) : l.length ≤ 3 ∧ ∀ k, k < l.length → (l.getD k zL).1.size ≤ 8 ∧ (l.getD k zL).2.size ≤ 8 := by
  unfold rightB posB at h
  simp only [Bool.and_eq_true, decide_eq_true_eq, Bool.not_eq_true'] at h
  refine ⟨h.1.1.2, fun k hk => ?_⟩
  have hn : noneB (l.getD k zL) = false := by
    cases hb : noneB (l.getD k zL) with
    | false => rfl
    | true => rw [any_hit noneB l k hk hb] at h; simp at h
  unfold noneB nameB valueB shortB at hn
  simp only [Bool.or_eq_false_iff, Bool.not_eq_false', Bool.and_eq_true, decide_eq_true_eq] at hn
  exact ⟨hn.1.2.1, hn.2.1⟩
set_option maxRecDepth 100000 in
set_option maxHeartbeats 1600000 in
theorem of_any (oa : Option Addr) (n cap : Nat) (l : List L2) (w : World) (h : Ls w oa n cap l) (hn : n ≤ 5) (hT : w.cell? ⟨3, 15, none⟩ = some (.int .u8 4)) :
    Calls Tryd.prog 6 #[.slice oa n cap] w fun e w' => e = .returned (if rightB l = true then .tuple #[.string (tx (hexL (labsF firstN l))), .int .i64 0] else .tuple #[.string ByteArray.empty, .int .i64 1]) ∧ Below w.heap.size w w' := by
  have hmf : ∀ (fn : Fn) (first cap : Array Value) (w : World), (Instr.makeFunc fn first cap).run Tryd.prog w = .ok (.func fn first cap) w := fun _ _ _ _ => rfl
  have hl := h.len
  have hr := h.room
  have HR := right_any oa n cap l w h (by omega)
  cases hb : rightB l with
  | false =>
    rw [hb] at HR
    go_enter Tryd.func6, Tryd.ntmps6
    go_wp2_with fail
    refine HR.mono ?_
    rintro e w1 ⟨rfl, B1⟩
    clear hT h HR
    go_wp2_with fail
    go_ret2
    exact ⟨rfl, B1⟩
  | true =>
    have hS := Lib.hid (right_small hb).2
    rw [hb] at HR
    clear hb
    go_enter Tryd.func6, Tryd.ntmps6
    go_wp2_with fail
    refine HR.mono ?_
    rintro e w1 ⟨rfl, B1⟩
    have h1 := h.below B1 (Nat.le_refl _)
    clear HR
    go_wp2_with fail
    have hF := HReg.fresh w1 firstN
    go_loopw [14] (fun s14 wr => ∃ k : Nat, k ≤ n ∧ s14 = .int .i64 k ∧ HReg wr w1.heap.size (labsF firstN (l.take k)) ∧ Below w1.heap.size w1 wr ∧ Hid (w1.heap.size < wr.heap.size)) (fun s14 _ => n - (intOf s14).toNat)
    case atStart => exact ⟨0, Nat.zero_le _, rfl, hF, (Below.refl _ _).alloc (Nat.le_refl _) _, by show _ < _; simp⟩
    case round =>
      obtain ⟨k, hk, rfl, hH, hB, hz⟩ := hrel
      clear hF
      by_cases hlt : k < n
      · obtain ⟨g, o, rfl, c0, c1⟩ := (h1.below hB (Nat.le_refl _)).cell k hlt
        have HN := Lib.hid (labsF_next firstN l k (by omega))
        obtain ⟨z0, z1⟩ := hS.out k (by omega)
        have hx : labsF firstN (l.take k) < M64 := labsF_lt first_lt
        generalize labsF firstN (l.take k) = x at *
        generalize l.getD k zL = p at *
        obtain ⟨s, t⟩ := p
        dsimp only at c0 c1 z0 z1
        have hz' := hz.out
        have hB7 := hB.alloc hB.size (.cells #[.string s, .string t] 39)
        have hH7 : HReg (wr.alloc (.cells #[.string s, .string t] 39)) w1.heap.size x := (Below.heap_alloc _ _ _ (by omega)).trans hH
        have e0 : (wr.alloc (.cells #[.string s, .string t] 39)).cell? ⟨wr.heap.size, 0, none⟩ = some (.string s) := by simp
        have e1 : (wr.alloc (.cells #[.string s, .string t] 39)).cell? ⟨wr.heap.size, 1, none⟩ = some (.string t) := by simp
        have hsz : (wr.alloc (.cells #[.string s, .string t] 39)).heap.size = wr.heap.size + 1 := by simp
        have hne : wr.heap.size ≠ w1.heap.size := by omega
        clear hmf h1 h hS
        go_wp2_with fail
        generalize wr.alloc (.cells #[.string s, .string t] 39) = w7 at *
        refine (add_any s w1.heap.size x w7 (by omega) hx hH7).mono ?_
        rintro e w8 ⟨rfl, R8, B8, S8, O8⟩
        have l8 : fnR x (bl s) < M64 := fnR_lt hx
        have e8 := (cell_keep (O8 wr.heap.size hne) (o := 1) (sp := none)).trans e1
        have B18 := hB7.trans B8
        clear hH7 e0 hB7 B8
        go_wp2_with fail
        refine (add_any _ w1.heap.size _ w8 (by decide) l8 R8).mono ?_
        rintro e w9 ⟨rfl, R9, B9, S9, O9⟩
        have l9 : fnR (fnR x (bl s)) (bl ⟨#[61]⟩) < M64 := fnR_lt l8
        have e9 := (cell_keep (O9 wr.heap.size hne) (o := 1) (sp := none)).trans e8
        have B19 := B18.trans B9
        clear R8 B18 B9 e8
        go_wp2_with fail
        refine (add_any t w1.heap.size _ w9 (by omega) l9 R9).mono ?_
        rintro e w10 ⟨rfl, R10, B10, S10, O10⟩
        have l10 : fnR (fnR (fnR x (bl s)) (bl ⟨#[61]⟩)) (bl t) < M64 := fnR_lt l9
        have B110 := B19.trans B10
        clear R9 B19 B10 e9
        go_wp2_with fail
        refine (add_any _ w1.heap.size _ w10 (by decide) l10 R10).mono ?_
        rintro e w11 ⟨rfl, R11, B11, S11, O11⟩
        have B111 := B110.trans B11
        clear R10 B110 B11
        have R12 : HReg w11 w1.heap.size (labsF firstN (l.take (k + 1))) := by rw [← HN.out]; exact R11
        go_wp2_with fail
        go_roundw
        case rel => exact ⟨k + 1, by omega, by go_num, R12, B111, by show _ < _; omega⟩
        case measure => simp [intOf]; omega
      · obtain rfl : k = n := by omega
        rw [List.take_of_length_le (by omega)] at hH
        have hx : labsF firstN l < M64 := labsF_lt first_lt
        obtain ⟨x, HE⟩ : ∃ x, Hid (labsF firstN l = x) := ⟨_, rfl⟩
        rw [HE.out] at hH hx
        have hc := hH.cell
        have hT2 : wr.cell? ⟨3, 15, none⟩ = some (.int .u8 4) := by
          have hb := World.block_lt_of_cell? _ _ hT
          exact (hB.cell (Nat.lt_of_lt_of_le hb B1.size)).trans ((B1.cell hb).trans hT)
        clear h h1 hT hmf
        go_wp2_with fail
        refine (hexIn_any x _ hx hT2).mono ?_
        rintro e w2 ⟨rfl, B2⟩
        clear hT2 hc hH
        go_wp2_with fail
        go_ret2
        exact ⟨by simp [HE.out], B1.trans ((hB.trans (B2.mono hB.size)).mono B1.size)⟩
theorem text_step (a : List UInt8) (u v : ByteArray) : tx a ++ u ++ ⟨#[61]⟩ ++ v ++ ⟨#[10]⟩ = tx (a ++ labX (u, v)) := by
  apply ByteArray.ext
  rw [ByteArray.data_append, ByteArray.data_append, ByteArray.data_append, ByteArray.data_append]
  unfold tx labX
  simp
theorem size_step (t u v : ByteArray) : (t ++ u ++ ⟨#[61]⟩ ++ v ++ ⟨#[10]⟩).size = t.size + u.size + v.size + 2 := by
  have h1 : (⟨#[61]⟩ : ByteArray).size = 1 := rfl
  have h2 : (⟨#[10]⟩ : ByteArray).size = 1 := rfl
  rw [ByteArray.size_append, ByteArray.size_append, ByteArray.size_append, ByteArray.size_append, h1, h2]
  omega
set_option maxRecDepth 100000 in
set_option maxHeartbeats 1600000 in
theorem refOf_any (oa : Option Addr) (n cap : Nat) (l : List L2) (w : World) (h : Ls w oa n cap l) (hb : rightB l = true) :
    Calls Tryd.prog 13 #[.slice oa n cap] w fun e w' => e = .returned (.string (tx (hexL (labsF firstN l)))) ∧ Below w.heap.size w w' := by
  have hl := h.len
  have hr := h.room
  obtain ⟨h3, hS⟩ := right_small hb
  have hn3 : n ≤ 3 := by omega
  have HS := Lib.hid hS
  clear hb hS h3
  go_enter Tryd.func13, Tryd.ntmps13
  go_wp2_with fail
  go_loopw [3, 8] (fun s3 s8 wr => ∃ (k : Nat) (t : ByteArray), k ≤ n ∧ s8 = .int .i64 k ∧ s3 = .string t ∧ Hid (t = tx (labsX (l.take k))) ∧ t.size ≤ 18 * k ∧ Below w.heap.size w wr) (fun _ s8 _ => n - (intOf s8).toNat)
  case atStart => exact ⟨0, tx [], Nat.zero_le _, rfl, rfl, rfl, Nat.le_refl _, Below.refl _ _⟩
  case round =>
    obtain ⟨k, t, hk, rfl, rfl, HT, ht, hB⟩ := hrel
    by_cases hlt : k < n
    · obtain ⟨g, o, rfl, c0, c1⟩ := (h.below hB (Nat.le_refl _)).cell k hlt
      have HN := Lib.hid (labsX_next l k (by omega))
      obtain ⟨z0, z1⟩ := HS.out k (by omega)
      generalize l.getD k zL = p at *
      obtain ⟨u, v⟩ := p
      dsimp only at c0 c1 z0 z1
      have hB7 := hB.alloc hB.size (.cells #[.string u, .string v] 39)
      have e0 : (wr.alloc (.cells #[.string u, .string v] 39)).cell? ⟨wr.heap.size, 0, none⟩ = some (.string u) := by simp
      have e1 : (wr.alloc (.cells #[.string u, .string v] 39)).cell? ⟨wr.heap.size, 1, none⟩ = some (.string v) := by simp
      have HX : Hid (t ++ u ++ ⟨#[61]⟩ ++ v ++ ⟨#[10]⟩ = tx (labsX (l.take (k + 1)))) := by
        show _ = _
        rw [HT.out, HN.out, text_step]
      have HZ := Lib.hid (size_step t u v)
      clear h hl
      go_wp2_with fail
      go_roundw
      case rel => exact ⟨k + 1, _, by omega, by go_num, rfl, HX, by rw [HZ.out]; omega, hB7⟩
      case measure => simp [intOf]; omega
    · obtain rfl : k = n := by omega
      rw [List.take_of_length_le (by omega)] at HT
      have HX : Hid (fnR firstN (bl t) = labsF firstN l) := by
        show _ = _
        rw [HT.out, bl_tx, fnR_labsX]
      have HR := refMore_any firstN t wr (by omega) first_lt
      have hx : fnR firstN (bl t) < M64 := fnR_lt first_lt
      obtain ⟨x, HE⟩ : ∃ x, Hid (labsF firstN l = x) := ⟨_, rfl⟩
      rw [HX.out, HE.out] at HR hx
      clear h hl
      go_wp2_with fail
      refine HR.mono ?_
      rintro e w1 ⟨rfl, B1⟩
      have HH := refHex_any _ w1 hx
      clear HR
      go_wp2_with fail
      refine HH.mono ?_
      rintro e w2 ⟨rfl, B2⟩
      go_wp2_with fail
      go_ret
      have B12 := B1.trans (B2.mono B1.size)
      exact ⟨retS (by rw [HE.out]), hB.trans (B12.mono hB.size)⟩
end Go.Proofs.YtkffaimemmgfeaaDoor
