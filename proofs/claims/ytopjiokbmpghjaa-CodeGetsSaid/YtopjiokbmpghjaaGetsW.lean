/-
  The law's walk: CodeGets.
-/
import Derived.Test.YtopjiokbmpghjaaCodA
import Derived.Test.YtopjiokbmpghjaaLawC
import Derived.Test.YtopjiokbmpghjaaRcdJ
import Derived.Deep.RegionHeld3
import Derived.Lib.MinMax
namespace Go.Proofs.Ytopjiokbmpghjaa
open Go.RowKit Go.Shelf
set_option linter.unusedVariables false
set_option linter.unusedSimpArgs false

set_option maxRecDepth 100000 in
set_option maxHeartbeats 12800000 in
theorem gets_walk (tx0 : ByteArray) (w : World) (hs : tx0.size ≤ maxLen) :
    Calls Try.prog 4 #[.string tx0] w fun e w' => e = .returned (.bool true) ∧ Below w.heap.size w w' := by
  unfold maxLen at hs
  obtain ⟨m0, hm0, em, hm1, hm2⟩ := min_of tx0.size 130
  change min (tx0.size : Int) 130 = (m0 : Int) at em
  clear hm0
  obtain ⟨Lt, hLt, hLs⟩ : ∃ Lt : List UInt8, tx0.extract 0 m0 = tx Lt ∧ Lt.length ≤ 130 := ⟨(tx0.extract 0 m0).data.toList, (tx_of _).symm, by show (tx0.extract 0 m0).size ≤ 130; rw [ByteArray.size_extract]; omega⟩
  have HG := fun w => cget_any Lt (by omega) w
  have HU := fun w => refGet_any Lt (by omega) w
  rw [show getB Lt = gotB Lt from gotB_is Lt] at HU
  obtain ⟨B2, hB2⟩ : ∃ B2, gotB Lt = B2 := ⟨_, rfl⟩
  have HT0 : Hid (B2 = false → getV Lt = zRc ∧ getE Lt = 13) := fun e => by unfold getV getE; rw [hB2, e]; exact ⟨rfl, rfl⟩
  have HT1 : Hid (B2 = true → getV Lt = parseN Lt ∧ getE Lt = 0) := fun e => by unfold getV getE; rw [hB2, e]; exact ⟨rfl, rfl⟩
  rw [hB2] at HU
  clear hB2
  obtain ⟨r2, hr2⟩ : ∃ r2, parseN Lt = r2 := ⟨_, rfl⟩
  rw [hr2] at HU HT1
  clear hr2
  generalize getV Lt = gv at *
  generalize getE Lt = ge at *
  generalize tx Lt = tL at *
  clear hLs
  go_enter Try.func4, Try.ntmps4
  go_upto_region 2 with fail
  cases B2 with
  | false =>
    obtain ⟨e1, e2⟩ := HT0.out (by first | rfl | trivial)
    rw [e1, e2] at HG
    clear e1 e2 HT0 HT1
    obtain ⟨k2, ⟨l2, rt2, pl2, tr2, du2, st2⟩, m2, f2, t2, q2⟩ := r2
    dsimp only [aggRc, recV] at *
    go_wp2_with fail
    refine (HG _).mono ?_
    rintro e w1 ⟨⟨a1, an1, ac1, a2, an2, ac2, a3, an3, ac3, rfl, hRa⟩, B1⟩
    have VA := Vals.new w1 29 #[.int .i64 0, .slice a1 an1 ac1, .int .i64 0, .int .i64 0, .int .i64 0, .int .i64 0, .int .i64 0, .slice a2 an2 ac2, .int .i64 0, .int .i64 0, .slice a3 an3 ac3]
    have hRb := hRa.below (below_alloc w1 (.cells #[.int .i64 0, .slice a1 an1 ac1, .int .i64 0, .int .i64 0, .int .i64 0, .int .i64 0, .int .i64 0, .slice a2 an2 ac2, .int .i64 0, .int .i64 0, .slice a3 an3 ac3] 29)) (Nat.le_refl _)
    have C2 := B1.alloc B1.size (.cells #[.int .i64 0, .slice a1 an1 ac1, .int .i64 0, .int .i64 0, .int .i64 0, .int .i64 0, .int .i64 0, .slice a2 an2 ac2, .int .i64 0, .int .i64 0, .slice a3 an3 ac3] 29)
    have hs2 : w.heap.size ≤ (w1.alloc (.cells #[.int .i64 0, .slice a1 an1 ac1, .int .i64 0, .int .i64 0, .int .i64 0, .int .i64 0, .int .i64 0, .slice a2 an2 ac2, .int .i64 0, .int .i64 0, .slice a3 an3 ac3] 29)).heap.size := by have := B1.size; rw [World.size_alloc]; omega
    go_upto_region 3 with fail
    generalize w1.alloc (.cells #[.int .i64 0, .slice a1 an1 ac1, .int .i64 0, .int .i64 0, .int .i64 0, .int .i64 0, .int .i64 0, .slice a2 an2 ac2, .int .i64 0, .int .i64 0, .slice a3 an3 ac3] 29) = w2 at *
    generalize w1.heap.size = Y at *
    clear hRa B1 HG
    go_wp2_with fail
    refine (HU _).mono ?_
    rintro e w3 ⟨⟨u1, un1, uc1, u2, un2, uc2, u3, un3, uc3, rfl, hRu⟩, B3⟩
    have VA3 := (VA.keep B3 (Nat.le_refl _)).alloc (.cells #[.int .i64 k2, .slice u1 un1 uc1, .int .i64 rt2, .int .i64 pl2, .int .i64 tr2, .int .i64 du2, .int .i64 st2, .slice u2 un2 uc2, .int .i64 f2, .int .i64 t2, .slice u3 un3 uc3] 29)
    have VU3 := Vals.new w3 29 #[.int .i64 k2, .slice u1 un1 uc1, .int .i64 rt2, .int .i64 pl2, .int .i64 tr2, .int .i64 du2, .int .i64 st2, .slice u2 un2 uc2, .int .i64 f2, .int .i64 t2, .slice u3 un3 uc3]
    have hRb3 := (hRb.below B3 (Nat.le_refl _)).below (below_alloc w3 (.cells #[.int .i64 k2, .slice u1 un1 uc1, .int .i64 rt2, .int .i64 pl2, .int .i64 tr2, .int .i64 du2, .int .i64 st2, .slice u2 un2 uc2, .int .i64 f2, .int .i64 t2, .slice u3 un3 uc3] 29)) (Nat.le_refl _)
    have hRu3 := hRu.below (below_alloc w3 (.cells #[.int .i64 k2, .slice u1 un1 uc1, .int .i64 rt2, .int .i64 pl2, .int .i64 tr2, .int .i64 du2, .int .i64 st2, .slice u2 un2 uc2, .int .i64 f2, .int .i64 t2, .slice u3 un3 uc3] 29)) (Nat.le_refl _)
    have C3 := C2.trans (B3.mono hs2)
    have C4 := C3.alloc C3.size (.cells #[.int .i64 k2, .slice u1 un1 uc1, .int .i64 rt2, .int .i64 pl2, .int .i64 tr2, .int .i64 du2, .int .i64 st2, .slice u2 un2 uc2, .int .i64 f2, .int .i64 t2, .slice u3 un3 uc3] 29)
    have hs4 : w.heap.size ≤ (w3.alloc (.cells #[.int .i64 k2, .slice u1 un1 uc1, .int .i64 rt2, .int .i64 pl2, .int .i64 tr2, .int .i64 du2, .int .i64 st2, .slice u2 un2 uc2, .int .i64 f2, .int .i64 t2, .slice u3 un3 uc3] 29)).heap.size := by have := C3.size; rw [World.size_alloc]; omega
    go_upto_region 4 with fail
    generalize w3.alloc (.cells #[.int .i64 k2, .slice u1 un1 uc1, .int .i64 rt2, .int .i64 pl2, .int .i64 tr2, .int .i64 du2, .int .i64 st2, .slice u2 un2 uc2, .int .i64 f2, .int .i64 t2, .slice u3 un3 uc3] 29) = w4 at *
    generalize w3.heap.size = Z at *
    clear VA hRb C2 hs2 HU hRu B3 C3
    go_wp2_with fail
    refine (alive_any _).mono ?_
    rintro e w5 ⟨rfl, B5⟩
    have VA5 := VA3.keep B5 (Nat.le_refl _)
    have VU5 := VU3.keep B5 (Nat.le_refl _)
    have hRb5 := hRb3.below B5 (Nat.le_refl _)
    have hRu5 := hRu3.below B5 (Nat.le_refl _)
    have C5 := C4.trans (B5.mono hs4)
    have hs5 : w.heap.size ≤ w5.heap.size := Nat.le_trans hs4 B5.size
    have x0 : w5.cell? ⟨Y, 0, none⟩ = some (.int .i64 0) := VA5.cell 0
    have x1 : w5.cell? ⟨Y, 1, none⟩ = some (.slice a1 an1 ac1) := VA5.cell 1
    have x2 : w5.cell? ⟨Y, 2, none⟩ = some (.int .i64 0) := VA5.cell 2
    have x3 : w5.cell? ⟨Y, 3, none⟩ = some (.int .i64 0) := VA5.cell 3
    have x4 : w5.cell? ⟨Y, 4, none⟩ = some (.int .i64 0) := VA5.cell 4
    have x5 : w5.cell? ⟨Y, 5, none⟩ = some (.int .i64 0) := VA5.cell 5
    have x6 : w5.cell? ⟨Y, 6, none⟩ = some (.int .i64 0) := VA5.cell 6
    have x7 : w5.cell? ⟨Y, 7, none⟩ = some (.slice a2 an2 ac2) := VA5.cell 7
    have x8 : w5.cell? ⟨Y, 8, none⟩ = some (.int .i64 0) := VA5.cell 8
    have x9 : w5.cell? ⟨Y, 9, none⟩ = some (.int .i64 0) := VA5.cell 9
    have x10 : w5.cell? ⟨Y, 10, none⟩ = some (.slice a3 an3 ac3) := VA5.cell 10
    have HS := sameRc_any a1 an1 ac1 a2 an2 ac2 a3 an3 ac3 zRc none 0 0 none 0 0 none 0 0 zRc w5 hRb5 (RAt.nil _)
    rw [show decide (zRc = zRc) = true from decide_eq_true rfl] at HS
    dsimp only [aggRc, recV] at HS
    clear VA3 VU3 hRb3 hRu3 C4 hs4 B5 VA5 VU5 hRb5 hRu5
    go_wp2_with fail
    refine HS.mono ?_
    rintro e w6 ⟨rfl, B6⟩
    go_wp2_with fail
    go_ret
    exact ⟨rfl, C5.trans (B6.mono hs5)⟩
  | true =>
    obtain ⟨e1, e2⟩ := HT1.out (by first | rfl | trivial)
    rw [e1, e2] at HG
    clear e1 e2 HT0 HT1
    obtain ⟨k2, ⟨l2, rt2, pl2, tr2, du2, st2⟩, m2, f2, t2, q2⟩ := r2
    dsimp only [aggRc, recV] at *
    go_wp2_with fail
    refine (HG _).mono ?_
    rintro e w1 ⟨⟨a1, an1, ac1, a2, an2, ac2, a3, an3, ac3, rfl, hRa⟩, B1⟩
    have VA := Vals.new w1 29 #[.int .i64 k2, .slice a1 an1 ac1, .int .i64 rt2, .int .i64 pl2, .int .i64 tr2, .int .i64 du2, .int .i64 st2, .slice a2 an2 ac2, .int .i64 f2, .int .i64 t2, .slice a3 an3 ac3]
    have hRb := hRa.below (below_alloc w1 (.cells #[.int .i64 k2, .slice a1 an1 ac1, .int .i64 rt2, .int .i64 pl2, .int .i64 tr2, .int .i64 du2, .int .i64 st2, .slice a2 an2 ac2, .int .i64 f2, .int .i64 t2, .slice a3 an3 ac3] 29)) (Nat.le_refl _)
    have C2 := B1.alloc B1.size (.cells #[.int .i64 k2, .slice a1 an1 ac1, .int .i64 rt2, .int .i64 pl2, .int .i64 tr2, .int .i64 du2, .int .i64 st2, .slice a2 an2 ac2, .int .i64 f2, .int .i64 t2, .slice a3 an3 ac3] 29)
    have hs2 : w.heap.size ≤ (w1.alloc (.cells #[.int .i64 k2, .slice a1 an1 ac1, .int .i64 rt2, .int .i64 pl2, .int .i64 tr2, .int .i64 du2, .int .i64 st2, .slice a2 an2 ac2, .int .i64 f2, .int .i64 t2, .slice a3 an3 ac3] 29)).heap.size := by have := B1.size; rw [World.size_alloc]; omega
    go_upto_region 3 with fail
    generalize w1.alloc (.cells #[.int .i64 k2, .slice a1 an1 ac1, .int .i64 rt2, .int .i64 pl2, .int .i64 tr2, .int .i64 du2, .int .i64 st2, .slice a2 an2 ac2, .int .i64 f2, .int .i64 t2, .slice a3 an3 ac3] 29) = w2 at *
    generalize w1.heap.size = Y at *
    clear hRa B1 HG
    go_wp2_with fail
    refine (HU _).mono ?_
    rintro e w3 ⟨⟨u1, un1, uc1, u2, un2, uc2, u3, un3, uc3, rfl, hRu⟩, B3⟩
    have VA3 := (VA.keep B3 (Nat.le_refl _)).alloc (.cells #[.int .i64 k2, .slice u1 un1 uc1, .int .i64 rt2, .int .i64 pl2, .int .i64 tr2, .int .i64 du2, .int .i64 st2, .slice u2 un2 uc2, .int .i64 f2, .int .i64 t2, .slice u3 un3 uc3] 29)
    have VU3 := Vals.new w3 29 #[.int .i64 k2, .slice u1 un1 uc1, .int .i64 rt2, .int .i64 pl2, .int .i64 tr2, .int .i64 du2, .int .i64 st2, .slice u2 un2 uc2, .int .i64 f2, .int .i64 t2, .slice u3 un3 uc3]
    have hRb3 := (hRb.below B3 (Nat.le_refl _)).below (below_alloc w3 (.cells #[.int .i64 k2, .slice u1 un1 uc1, .int .i64 rt2, .int .i64 pl2, .int .i64 tr2, .int .i64 du2, .int .i64 st2, .slice u2 un2 uc2, .int .i64 f2, .int .i64 t2, .slice u3 un3 uc3] 29)) (Nat.le_refl _)
    have hRu3 := hRu.below (below_alloc w3 (.cells #[.int .i64 k2, .slice u1 un1 uc1, .int .i64 rt2, .int .i64 pl2, .int .i64 tr2, .int .i64 du2, .int .i64 st2, .slice u2 un2 uc2, .int .i64 f2, .int .i64 t2, .slice u3 un3 uc3] 29)) (Nat.le_refl _)
    have C3 := C2.trans (B3.mono hs2)
    have C4 := C3.alloc C3.size (.cells #[.int .i64 k2, .slice u1 un1 uc1, .int .i64 rt2, .int .i64 pl2, .int .i64 tr2, .int .i64 du2, .int .i64 st2, .slice u2 un2 uc2, .int .i64 f2, .int .i64 t2, .slice u3 un3 uc3] 29)
    have hs4 : w.heap.size ≤ (w3.alloc (.cells #[.int .i64 k2, .slice u1 un1 uc1, .int .i64 rt2, .int .i64 pl2, .int .i64 tr2, .int .i64 du2, .int .i64 st2, .slice u2 un2 uc2, .int .i64 f2, .int .i64 t2, .slice u3 un3 uc3] 29)).heap.size := by have := C3.size; rw [World.size_alloc]; omega
    go_upto_region 4 with fail
    generalize w3.alloc (.cells #[.int .i64 k2, .slice u1 un1 uc1, .int .i64 rt2, .int .i64 pl2, .int .i64 tr2, .int .i64 du2, .int .i64 st2, .slice u2 un2 uc2, .int .i64 f2, .int .i64 t2, .slice u3 un3 uc3] 29) = w4 at *
    generalize w3.heap.size = Z at *
    clear VA hRb C2 hs2 HU hRu B3 C3
    go_wp2_with fail
    refine (alive_any _).mono ?_
    rintro e w5 ⟨rfl, B5⟩
    have VA5 := VA3.keep B5 (Nat.le_refl _)
    have VU5 := VU3.keep B5 (Nat.le_refl _)
    have hRb5 := hRb3.below B5 (Nat.le_refl _)
    have hRu5 := hRu3.below B5 (Nat.le_refl _)
    have C5 := C4.trans (B5.mono hs4)
    have hs5 : w.heap.size ≤ w5.heap.size := Nat.le_trans hs4 B5.size
    have x0 : w5.cell? ⟨Y, 0, none⟩ = some (.int .i64 k2) := VA5.cell 0
    have x1 : w5.cell? ⟨Y, 1, none⟩ = some (.slice a1 an1 ac1) := VA5.cell 1
    have x2 : w5.cell? ⟨Y, 2, none⟩ = some (.int .i64 rt2) := VA5.cell 2
    have x3 : w5.cell? ⟨Y, 3, none⟩ = some (.int .i64 pl2) := VA5.cell 3
    have x4 : w5.cell? ⟨Y, 4, none⟩ = some (.int .i64 tr2) := VA5.cell 4
    have x5 : w5.cell? ⟨Y, 5, none⟩ = some (.int .i64 du2) := VA5.cell 5
    have x6 : w5.cell? ⟨Y, 6, none⟩ = some (.int .i64 st2) := VA5.cell 6
    have x7 : w5.cell? ⟨Y, 7, none⟩ = some (.slice a2 an2 ac2) := VA5.cell 7
    have x8 : w5.cell? ⟨Y, 8, none⟩ = some (.int .i64 f2) := VA5.cell 8
    have x9 : w5.cell? ⟨Y, 9, none⟩ = some (.int .i64 t2) := VA5.cell 9
    have x10 : w5.cell? ⟨Y, 10, none⟩ = some (.slice a3 an3 ac3) := VA5.cell 10
    have y0 : w5.cell? ⟨Z, 0, none⟩ = some (.int .i64 k2) := VU5.cell 0
    have y1 : w5.cell? ⟨Z, 1, none⟩ = some (.slice u1 un1 uc1) := VU5.cell 1
    have y2 : w5.cell? ⟨Z, 2, none⟩ = some (.int .i64 rt2) := VU5.cell 2
    have y3 : w5.cell? ⟨Z, 3, none⟩ = some (.int .i64 pl2) := VU5.cell 3
    have y4 : w5.cell? ⟨Z, 4, none⟩ = some (.int .i64 tr2) := VU5.cell 4
    have y5 : w5.cell? ⟨Z, 5, none⟩ = some (.int .i64 du2) := VU5.cell 5
    have y6 : w5.cell? ⟨Z, 6, none⟩ = some (.int .i64 st2) := VU5.cell 6
    have y7 : w5.cell? ⟨Z, 7, none⟩ = some (.slice u2 un2 uc2) := VU5.cell 7
    have y8 : w5.cell? ⟨Z, 8, none⟩ = some (.int .i64 f2) := VU5.cell 8
    have y9 : w5.cell? ⟨Z, 9, none⟩ = some (.int .i64 t2) := VU5.cell 9
    have y10 : w5.cell? ⟨Z, 10, none⟩ = some (.slice u3 un3 uc3) := VU5.cell 10
    have HS := sameRc_any a1 an1 ac1 a2 an2 ac2 a3 an3 ac3 ⟨k2, ⟨l2, rt2, pl2, tr2, du2, st2⟩, m2, f2, t2, q2⟩ u1 un1 uc1 u2 un2 uc2 u3 un3 uc3 ⟨k2, ⟨l2, rt2, pl2, tr2, du2, st2⟩, m2, f2, t2, q2⟩ w5 hRb5 hRu5
    rw [show decide ((⟨k2, ⟨l2, rt2, pl2, tr2, du2, st2⟩, m2, f2, t2, q2⟩ : Rc) = ⟨k2, ⟨l2, rt2, pl2, tr2, du2, st2⟩, m2, f2, t2, q2⟩) = true from decide_eq_true rfl] at HS
    dsimp only [aggRc, recV] at HS
    clear VA3 VU3 hRb3 hRu3 C4 hs4 B5 VA5 VU5 hRb5 hRu5
    go_wp2_with fail
    refine HS.mono ?_
    rintro e w6 ⟨rfl, B6⟩
    go_wp2_with fail
    go_ret
    exact ⟨rfl, C5.trans (B6.mono hs5)⟩
end Go.Proofs.Ytopjiokbmpghjaa
