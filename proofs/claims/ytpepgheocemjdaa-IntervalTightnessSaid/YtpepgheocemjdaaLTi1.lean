/-
  The law of tight ends: its walk.
-/
import Derived.Test.YtpepgheocemjdaaSanity
import Derived.Test.YtpepgheocemjdaaR1
import Derived.Test.YtpepgheocemjdaaHead
import Derived.Test.YtpepgheocemjdaaPred
import Derived.Deep.DrawnRows
import Derived.Deep.CutRange
import Derived.Outline
import Derived.WalkMore
import Derived.RangeFuncBox
namespace Go.Proofs.Ytpepgheocemjdaa
open Go.ChangeShapes Go.WideShapes Go.ChangeAt Go.RowKit
set_option linter.unusedVariables false
set_option linter.unusedSimpArgs false
set_option maxRecDepth 100000

open Go.BigFrame
attribute [local irreducible] Calls
attribute [local go_sem ↓] run_max_two
def upg {W0 : World} (g : Grown W0) (h : Grown g.w) : Grown W0 := ⟨h.w, g.h.trans (h.h.mono g.h.size)⟩
theorem steady_row {B : Nat} {x y : Value} {t : TypeId} : Steady (fun u w' => ∃ X, u = .slice (some ⟨X, 0, none⟩) 2 2 ∧ B ≤ X ∧ w'.heap[X]? = some (.cells #[x, y] t (0, 0))) := by
  rintro v w1 w2 hb ⟨X, h1, h2, h3⟩
  exact ⟨X, h1, h2, (hb.block X (Array.getElem?_eq_some_iff.1 h3).1).trans h3⟩
set_option maxRecDepth 100000 in
set_option maxHeartbeats 32000000 in
theorem tight_walk (x0 x1 x2 x3 x4 x5 a b c d mp1 mp2 ss1 ss2 qq1 qq2 uu1 uu2 rr1 rr2 vv1 vv2 zz1 zz2 fl0 fl1 fl2 fl3 ce0 ce1 ce2 ce3 dk0 dk1 dk2 dk3 dj0 dj1 dj2 dj3 : Int) (ep eq eu es is L1 L2 L3 L4 H1 H2 H3 H4 D1 D2 D3 D4 T1 T2 T3 T4 ne fa : Bool) (w : World) (m1h : ∀ w, Calls Try.prog 13 #[.agg #[.int .i64 x0, .int .i64 x1]] w fun e w' => e = .returned (.agg #[.int .i64 a, .int .i64 b]) ∧ Below w.heap.size w w') (m2h : ∀ w, Calls Try.prog 13 #[.agg #[.int .i64 x2, .int .i64 x3]] w fun e w' => e = .returned (.agg #[.int .i64 c, .int .i64 d]) ∧ Below w.heap.size w w') (eah : ∀ w, Calls Try.prog 14 #[.agg #[.int .i64 a, .int .i64 b]] w fun e w' => e = .returned (.bool false) ∧ Below w.heap.size w w') (ebh : ∀ w, Calls Try.prog 14 #[.agg #[.int .i64 c, .int .i64 d]] w fun e w' => e = .returned (.bool false) ∧ Below w.heap.size w w') (muh : ∀ w, Calls Try.prog 15 #[.agg #[.int .i64 a, .int .i64 b], .agg #[.int .i64 c, .int .i64 d]] w fun e w' => e = .returned (.agg #[.int .i64 mp1, .int .i64 mp2]) ∧ Below w.heap.size w w') (sqh : ∀ w, Calls Try.prog 16 #[.agg #[.int .i64 a, .int .i64 b]] w fun e w' => e = .returned (.agg #[.int .i64 ss1, .int .i64 ss2]) ∧ Below w.heap.size w w') (dvh : ∀ w, Calls Try.prog 17 #[.agg #[.int .i64 a, .int .i64 b], .agg #[.int .i64 c, .int .i64 d]] w fun e w' => e = .returned (.agg #[.int .i64 qq1, .int .i64 qq2]) ∧ Below w.heap.size w w') (adh : ∀ w, Calls Try.prog 18 #[.agg #[.int .i64 a, .int .i64 b], .agg #[.int .i64 c, .int .i64 d]] w fun e w' => e = .returned (.agg #[.int .i64 uu1, .int .i64 uu2]) ∧ Below w.heap.size w w') (eph : ∀ w, Calls Try.prog 14 #[.agg #[.int .i64 mp1, .int .i64 mp2]] w fun e w' => e = .returned (.bool ep) ∧ Below w.heap.size w w') (eqh : ∀ w, Calls Try.prog 14 #[.agg #[.int .i64 qq1, .int .i64 qq2]] w fun e w' => e = .returned (.bool eq) ∧ Below w.heap.size w w') (euh : ∀ w, Calls Try.prog 14 #[.agg #[.int .i64 uu1, .int .i64 uu2]] w fun e w' => e = .returned (.bool eu) ∧ Below w.heap.size w w') (esh : ∀ w, Calls Try.prog 14 #[.agg #[.int .i64 ss1, .int .i64 ss2]] w fun e w' => e = .returned (.bool es) ∧ Below w.heap.size w w') (rth : ∀ w, Calls Try.prog 21 #[.agg #[.int .i64 a, .int .i64 b]] w fun e w' => e = .returned (.tuple #[.agg #[.int .i64 rr1, .int .i64 rr2], .bool is]) ∧ Below w.heap.size w w') (v1h : ∀ w, Calls Try.prog 19 #[.int .i64 (a * a), .int .i64 65536] w fun e w' => e = .returned (.int .i64 vv1) ∧ w = w') (v2h : ∀ w, Calls Try.prog 19 #[.int .i64 (b * b), .int .i64 65536] w fun e w' => e = .returned (.int .i64 vv2) ∧ w = w') (z1h : ∀ w, Calls Try.prog 20 #[.int .i64 (a * a), .int .i64 65536] w fun e w' => e = .returned (.int .i64 zz1) ∧ w = w') (z2h : ∀ w, Calls Try.prog 20 #[.int .i64 (b * b), .int .i64 65536] w fun e w' => e = .returned (.int .i64 zz2) ∧ w = w') (f0h : ∀ w, Calls Try.prog 19 #[.int .i64 (a * c), .int .i64 65536] w fun e w' => e = .returned (.int .i64 fl0) ∧ w = w') (g0h : ∀ w, Calls Try.prog 20 #[.int .i64 (a * c), .int .i64 65536] w fun e w' => e = .returned (.int .i64 ce0) ∧ w = w') (k0h : (c != 0) = true → ∀ w, Calls Try.prog 19 #[.int .i64 (a * 65536), .int .i64 c] w fun e w' => e = .returned (.int .i64 dk0) ∧ w = w') (j0h : (c != 0) = true → ∀ w, Calls Try.prog 20 #[.int .i64 (a * 65536), .int .i64 c] w fun e w' => e = .returned (.int .i64 dj0) ∧ w = w') (f1h : ∀ w, Calls Try.prog 19 #[.int .i64 (a * d), .int .i64 65536] w fun e w' => e = .returned (.int .i64 fl1) ∧ w = w') (g1h : ∀ w, Calls Try.prog 20 #[.int .i64 (a * d), .int .i64 65536] w fun e w' => e = .returned (.int .i64 ce1) ∧ w = w') (k1h : (d != 0) = true → ∀ w, Calls Try.prog 19 #[.int .i64 (a * 65536), .int .i64 d] w fun e w' => e = .returned (.int .i64 dk1) ∧ w = w') (j1h : (d != 0) = true → ∀ w, Calls Try.prog 20 #[.int .i64 (a * 65536), .int .i64 d] w fun e w' => e = .returned (.int .i64 dj1) ∧ w = w') (f2h : ∀ w, Calls Try.prog 19 #[.int .i64 (b * c), .int .i64 65536] w fun e w' => e = .returned (.int .i64 fl2) ∧ w = w') (g2h : ∀ w, Calls Try.prog 20 #[.int .i64 (b * c), .int .i64 65536] w fun e w' => e = .returned (.int .i64 ce2) ∧ w = w') (k2h : (c != 0) = true → ∀ w, Calls Try.prog 19 #[.int .i64 (b * 65536), .int .i64 c] w fun e w' => e = .returned (.int .i64 dk2) ∧ w = w') (j2h : (c != 0) = true → ∀ w, Calls Try.prog 20 #[.int .i64 (b * 65536), .int .i64 c] w fun e w' => e = .returned (.int .i64 dj2) ∧ w = w') (f3h : ∀ w, Calls Try.prog 19 #[.int .i64 (b * d), .int .i64 65536] w fun e w' => e = .returned (.int .i64 fl3) ∧ w = w') (g3h : ∀ w, Calls Try.prog 20 #[.int .i64 (b * d), .int .i64 65536] w fun e w' => e = .returned (.int .i64 ce3) ∧ w = w') (k3h : (d != 0) = true → ∀ w, Calls Try.prog 19 #[.int .i64 (b * 65536), .int .i64 d] w fun e w' => e = .returned (.int .i64 dk3) ∧ w = w') (j3h : (d != 0) = true → ∀ w, Calls Try.prog 20 #[.int .i64 (b * 65536), .int .i64 d] w fun e w' => e = .returned (.int .i64 dj3) ∧ w = w') (bL1 : (false = false → (fl0 == mp1) = L1) ∧ (false = true → L1 = true)) (bL2 : (L1 = false → (fl1 == mp1) = L2) ∧ (L1 = true → L2 = true)) (bL3 : (L2 = false → (fl2 == mp1) = L3) ∧ (L2 = true → L3 = true)) (bL4 : (L3 = false → (fl3 == mp1) = L4) ∧ (L3 = true → L4 = true)) (bH1 : (false = false → (ce0 == mp2) = H1) ∧ (false = true → H1 = true)) (bH2 : (H1 = false → (ce1 == mp2) = H2) ∧ (H1 = true → H2 = true)) (bH3 : (H2 = false → (ce2 == mp2) = H3) ∧ (H2 = true → H3 = true)) (bH4 : (H3 = false → (ce3 == mp2) = H4) ∧ (H3 = true → H4 = true)) (bD1 : ((c != 0) = true → (false = false → (dk0 == qq1) = D1) ∧ (false = true → D1 = true)) ∧ ((c != 0) = false → D1 = false)) (bD2 : ((d != 0) = true → (D1 = false → (dk1 == qq1) = D2) ∧ (D1 = true → D2 = true)) ∧ ((d != 0) = false → D2 = D1)) (bD3 : ((c != 0) = true → (D2 = false → (dk2 == qq1) = D3) ∧ (D2 = true → D3 = true)) ∧ ((c != 0) = false → D3 = D2)) (bD4 : ((d != 0) = true → (D3 = false → (dk3 == qq1) = D4) ∧ (D3 = true → D4 = true)) ∧ ((d != 0) = false → D4 = D3)) (bT1 : ((c != 0) = true → (false = false → (dj0 == qq2) = T1) ∧ (false = true → T1 = true)) ∧ ((c != 0) = false → T1 = false)) (bT2 : ((d != 0) = true → (T1 = false → (dj1 == qq2) = T2) ∧ (T1 = true → T2 = true)) ∧ ((d != 0) = false → T2 = T1)) (bT3 : ((c != 0) = true → (T2 = false → (dj2 == qq2) = T3) ∧ (T2 = true → T3 = true)) ∧ ((c != 0) = false → T3 = T2)) (bT4 : ((d != 0) = true → (T3 = false → (dj3 == qq2) = T4) ∧ (T3 = true → T4 = true)) ∧ ((d != 0) = false → T4 = T3)) (bP : ep = false → L4 = true ∧ H4 = true) (bQ : eq = false → D4 = true ∧ T4 = true) (bU : eu = false → (uu1 != (a + c)) = false ∧ (uu2 != (b + d)) = false) (bN : ne = (((decide (a ≤ 0) && decide (0 ≤ b)) && (ss1 == 0)) || (vv1 == ss1) || (vv2 == ss1))) (bF : fa = ((zz1 == ss2) || (zz2 == ss2))) (bS : es = false → ne = true ∧ fa = true) (bI : is = false → decide (b < 0) = true) (bR : is = true → decide (max a 0 * 65536 < (rr1 + 1) * (rr1 + 1)) = true) (bR2 : is = true → (rr2 == 0) = false → decide ((rr2 - 1) * (rr2 - 1) < b * 65536) = true) (bo0 : -4611686018427387904 ≤ a * c ∧ a * c ≤ 4611686018427387904) (bo1 : -4611686018427387904 ≤ a * d ∧ a * d ≤ 4611686018427387904) (bo2 : -4611686018427387904 ≤ b * c ∧ b * c ≤ 4611686018427387904) (bo3 : -4611686018427387904 ≤ b * d ∧ b * d ≤ 4611686018427387904) (bo4 : -4611686018427387904 ≤ a * a ∧ a * a ≤ 4611686018427387904) (bo5 : -4611686018427387904 ≤ b * b ∧ b * b ≤ 4611686018427387904) (bo6 : -4611686018427387904 ≤ a * 65536 ∧ a * 65536 ≤ 4611686018427387904) (bo7 : -4611686018427387904 ≤ b * 65536 ∧ b * 65536 ≤ 4611686018427387904) (bo8 : -4611686018427387904 ≤ (rr1 + 1) * (rr1 + 1) ∧ (rr1 + 1) * (rr1 + 1) ≤ 4611686018427387904) (bo9 : -4611686018427387904 ≤ (rr2 - 1) * (rr2 - 1) ∧ (rr2 - 1) * (rr2 - 1) ≤ 4611686018427387904) (bo10 : -4611686018427387904 ≤ max a 0 * 65536 ∧ max a 0 * 65536 ≤ 4611686018427387904) (bi0 : -2147483648 ≤ a ∧ a ≤ 2147483648) (bi1 : -2147483648 ≤ b ∧ b ≤ 2147483648) (bi2 : -2147483648 ≤ c ∧ c ≤ 2147483648) (bi3 : -2147483648 ≤ d ∧ d ≤ 2147483648) (bi4 : -2147483648 ≤ rr1 ∧ rr1 ≤ 2147483648) (bi5 : -2147483648 ≤ rr2 ∧ rr2 ≤ 2147483648) :
    Calls Try.prog 3 #[.agg #[.int .i64 x0, .int .i64 x1, .int .i64 x2, .int .i64 x3, .int .i32 x4, .int .u16 x5]] w fun e w' => e = .returned (.bool true) ∧ Below w.heap.size w w' := by
  have hm1 := Lib.hid m1h
  clear m1h
  have hm2 := Lib.hid m2h
  clear m2h
  have hea := Lib.hid eah
  clear eah
  have heb := Lib.hid ebh
  clear ebh
  have hmu := Lib.hid muh
  clear muh
  have hsq := Lib.hid sqh
  clear sqh
  have hdv := Lib.hid dvh
  clear dvh
  have had := Lib.hid adh
  clear adh
  have hep := Lib.hid eph
  clear eph
  have heq := Lib.hid eqh
  clear eqh
  have heu := Lib.hid euh
  clear euh
  have hes := Lib.hid esh
  clear esh
  have hrt := Lib.hid rth
  clear rth
  have hv1 := Lib.hid v1h
  clear v1h
  have hv2 := Lib.hid v2h
  clear v2h
  have hz1 := Lib.hid z1h
  clear z1h
  have hz2 := Lib.hid z2h
  clear z2h
  have hf0 := Lib.hid f0h
  clear f0h
  have hg0 := Lib.hid g0h
  clear g0h
  have hk0 := Lib.hid k0h
  clear k0h
  have hj0 := Lib.hid j0h
  clear j0h
  have hf1 := Lib.hid f1h
  clear f1h
  have hg1 := Lib.hid g1h
  clear g1h
  have hk1 := Lib.hid k1h
  clear k1h
  have hj1 := Lib.hid j1h
  clear j1h
  have hf2 := Lib.hid f2h
  clear f2h
  have hg2 := Lib.hid g2h
  clear g2h
  have hk2 := Lib.hid k2h
  clear k2h
  have hj2 := Lib.hid j2h
  clear j2h
  have hf3 := Lib.hid f3h
  clear f3h
  have hg3 := Lib.hid g3h
  clear g3h
  have hk3 := Lib.hid k3h
  clear k3h
  have hj3 := Lib.hid j3h
  clear j3h
  have cbL1 := Lib.hid bL1
  clear bL1
  have cbL2 := Lib.hid bL2
  clear bL2
  have cbL3 := Lib.hid bL3
  clear bL3
  have cbL4 := Lib.hid bL4
  clear bL4
  have cbH1 := Lib.hid bH1
  clear bH1
  have cbH2 := Lib.hid bH2
  clear bH2
  have cbH3 := Lib.hid bH3
  clear bH3
  have cbH4 := Lib.hid bH4
  clear bH4
  have cbD1 := Lib.hid bD1
  clear bD1
  have cbD2 := Lib.hid bD2
  clear bD2
  have cbD3 := Lib.hid bD3
  clear bD3
  have cbD4 := Lib.hid bD4
  clear bD4
  have cbT1 := Lib.hid bT1
  clear bT1
  have cbT2 := Lib.hid bT2
  clear bT2
  have cbT3 := Lib.hid bT3
  clear bT3
  have cbT4 := Lib.hid bT4
  clear bT4
  have cbP := Lib.hid bP
  clear bP
  have cbQ := Lib.hid bQ
  clear bQ
  have cbU := Lib.hid bU
  clear bU
  have cbN := Lib.hid bN
  clear bN
  have cbF := Lib.hid bF
  clear bF
  have cbS := Lib.hid bS
  clear bS
  have cbI := Lib.hid bI
  clear bI
  have cbR := Lib.hid bR
  clear bR
  have cbR2 := Lib.hid bR2
  clear bR2
  have bo0a := bo0.1
  have bo0b := bo0.2
  clear bo0
  have bo1a := bo1.1
  have bo1b := bo1.2
  clear bo1
  have bo2a := bo2.1
  have bo2b := bo2.2
  clear bo2
  have bo3a := bo3.1
  have bo3b := bo3.2
  clear bo3
  have bo4a := bo4.1
  have bo4b := bo4.2
  clear bo4
  have bo5a := bo5.1
  have bo5b := bo5.2
  clear bo5
  have bo6a := bo6.1
  have bo6b := bo6.2
  clear bo6
  have bo7a := bo7.1
  have bo7b := bo7.2
  clear bo7
  have bo8a := bo8.1
  have bo8b := bo8.2
  clear bo8
  have bo9a := bo9.1
  have bo9b := bo9.2
  clear bo9
  have bo10a := bo10.1
  have bo10b := bo10.2
  clear bo10
  have bi0a := bi0.1
  have bi0b := bi0.2
  clear bi0
  have bi1a := bi1.1
  have bi1b := bi1.2
  clear bi1
  have bi2a := bi2.1
  have bi2b := bi2.2
  clear bi2
  have bi3a := bi3.1
  have bi3b := bi3.2
  clear bi3
  have bi4a := bi4.1
  have bi4b := bi4.2
  clear bi4
  have bi5a := bi5.1
  have bi5b := bi5.2
  clear bi5
  go_enter Try.func3, Try.ntmps3
  go_wp2_with (fail)
  generalize hW0 : World.alloc w _ = W0
  have hT0 : Below w.heap.size w W0 := by subst hW0; exact ((Below.refl w.heap.size w).alloc (by go_size) _)
  have Y0 : w.heap.size < W0.heap.size := by subst hW0; simp <;> omega
  have S0 : ∀ g : Grown W0, w.heap.size < g.w.heap.size := fun g => Nat.lt_of_lt_of_le Y0 g.h.size
  have F0_0 : ∀ g : Grown W0, g.w.cell? ⟨w.heap.size, 0, none⟩ = some (.int .i64 x0) := fun g => (g.cell Y0).trans (by subst hW0; simp [go_sem])
  have H0_0 : ∀ g : Grown W0, g.w.frozen? ⟨w.heap.size, 0, none⟩ = false := fun g => (g.frozen Y0).trans (by subst hW0; simp [go_sem])
  have F0_1 : ∀ g : Grown W0, g.w.cell? ⟨w.heap.size, 1, none⟩ = some (.int .i64 x1) := fun g => (g.cell Y0).trans (by subst hW0; simp [go_sem])
  have H0_1 : ∀ g : Grown W0, g.w.frozen? ⟨w.heap.size, 1, none⟩ = false := fun g => (g.frozen Y0).trans (by subst hW0; simp [go_sem])
  have F0_2 : ∀ g : Grown W0, g.w.cell? ⟨w.heap.size, 2, none⟩ = some (.int .i64 x2) := fun g => (g.cell Y0).trans (by subst hW0; simp [go_sem])
  have H0_2 : ∀ g : Grown W0, g.w.frozen? ⟨w.heap.size, 2, none⟩ = false := fun g => (g.frozen Y0).trans (by subst hW0; simp [go_sem])
  have F0_3 : ∀ g : Grown W0, g.w.cell? ⟨w.heap.size, 3, none⟩ = some (.int .i64 x3) := fun g => (g.cell Y0).trans (by subst hW0; simp [go_sem])
  have H0_3 : ∀ g : Grown W0, g.w.frozen? ⟨w.heap.size, 3, none⟩ = false := fun g => (g.frozen Y0).trans (by subst hW0; simp [go_sem])
  have F0_4 : ∀ g : Grown W0, g.w.cell? ⟨w.heap.size, 4, none⟩ = some (.int .i32 x4) := fun g => (g.cell Y0).trans (by subst hW0; simp [go_sem])
  have H0_4 : ∀ g : Grown W0, g.w.frozen? ⟨w.heap.size, 4, none⟩ = false := fun g => (g.frozen Y0).trans (by subst hW0; simp [go_sem])
  have F0_5 : ∀ g : Grown W0, g.w.cell? ⟨w.heap.size, 5, none⟩ = some (.int .u16 x5) := fun g => (g.cell Y0).trans (by subst hW0; simp [go_sem])
  have H0_5 : ∀ g : Grown W0, g.w.frozen? ⟨w.heap.size, 5, none⟩ = false := fun g => (g.frozen Y0).trans (by subst hW0; simp [go_sem])
  clear Y0
  clear hW0
  obtain ⟨g0, hg0⟩ : ∃ g : Grown W0, W0 = g.w := ⟨⟨W0, Below.refl _ _⟩, rfl⟩
  rw [hg0]
  clear hg0
  refine (sanity2 _).mono ?_
  rintro e1 w1 ⟨rfl, hB1⟩
  obtain ⟨g1, rfl⟩ := grow g0 hB1
  clear hB1
  go_wp2_with (fail)
  refine region_data 8 23 _ (by kernel_rfl) new_iv (by kernel_rfl) ?_
  refine data_op (.pointer (some ⟨w.heap.size, 0, none⟩)) rfl (RQ_pure (fun w => by simp [go_sem])) ?_
  simp only [Act.put, List.setIfInBounds_toArray, List.set_cons_succ, List.set_cons_zero]
  refine data_op _ rfl (RQ_load rfl rfl (load_iv_at (S0 _) (F0_0 _) (F0_1 _))) ?_
  simp only [Act.put, List.setIfInBounds_toArray, List.set_cons_succ, List.set_cons_zero]
  refine data_op _ rfl (RQ_call hm1.out (fun _ => by simp [go_sem])) ?_
  simp only [Act.put, List.setIfInBounds_toArray, List.set_cons_succ, List.set_cons_zero]
  refine data_op (.pointer (some ⟨w.heap.size, 2, none⟩)) rfl (RQ_pure (fun w => by simp [go_sem])) ?_
  simp only [Act.put, List.setIfInBounds_toArray, List.set_cons_succ, List.set_cons_zero]
  refine data_op _ rfl (RQ_load rfl rfl (load_iv_at (S0 _) (F0_2 _) (F0_3 _))) ?_
  simp only [Act.put, List.setIfInBounds_toArray, List.set_cons_succ, List.set_cons_zero]
  refine data_op _ rfl (RQ_call hm2.out (fun _ => by simp [go_sem])) ?_
  simp only [Act.put, List.setIfInBounds_toArray, List.set_cons_succ, List.set_cons_zero]
  refine data_al rfl ?_
  simp only [Act.put, List.setIfInBounds_toArray, List.set_cons_succ, List.set_cons_zero]
  refine data_al rfl ?_
  simp only [Act.put, List.setIfInBounds_toArray, List.set_cons_succ, List.set_cons_zero]
  refine data_end ?_
  intro wh hBh
  simp only [Act.put, List.drop_succ_cons, List.drop_zero, List.take_succ_cons, List.take_zero, alDsts, List.filterMap_cons, List.filterMap_nil, isAl, Bool.false_eq_true, if_false, if_true, finK]
  intro b1x0 p0 q0 r0 o0
  intro b1x1 p1 q1 r1 o1
  obtain ⟨u00, u01, v00, v01⟩ := new_cell o0
  obtain ⟨u10, u11, v10, v11⟩ := new_cell o1
  have n01 : b1x0 ≠ b1x1 := r1 b1x0 (by simp)
  clear r0 o0 r1 o1
  simp only [List.setIfInBounds_toArray, List.set_cons_succ, List.set_cons_zero]
  refine list_store rfl rfl rfl rfl rfl (by exact u00) (by exact u01) (by exact v00) (by exact v01) ?_
  refine list_store rfl rfl rfl rfl rfl (by rw [st2_old (Ne.symm n01)]; exact u10) (by rw [st2_old (Ne.symm n01)]; exact u11) (by simp only [st2_frozen]; exact v10) (by simp only [st2_frozen]; exact v11) ?_
  refine wpList_nil ?_
  generalize e1 : (st2 (st2 wh b1x0 (.int .i64 a) (.int .i64 b)) b1x1 (.int .i64 c) (.int .i64 d)) = W1
  have hL1 : Below g1.w.heap.size g1.w W1 := by rw [← e1]; exact (st2_below (st2_below hBh p0) p1)
  have hT1 : Below w.heap.size w W1 := below_then (below_then hT0 g1.h) hL1
  have s0 := S0 g1
  have Y0 : w.heap.size < W1.heap.size := Nat.lt_of_lt_of_le s0 hL1.size
  have c0_0 := F0_0 g1
  have d0_0 := H0_0 g1
  have c0_1 := F0_1 g1
  have d0_1 := H0_1 g1
  have c0_2 := F0_2 g1
  have d0_2 := H0_2 g1
  have c0_3 := F0_3 g1
  have d0_3 := H0_3 g1
  have c0_4 := F0_4 g1
  have d0_4 := H0_4 g1
  have c0_5 := F0_5 g1
  have d0_5 := H0_5 g1
  clear S0 F0_0 H0_0 F0_1 H0_1 F0_2 H0_2 F0_3 H0_3 F0_4 H0_4 F0_5 H0_5
  have S0 : ∀ g : Grown W1, w.heap.size < g.w.heap.size := fun g => Nat.lt_of_lt_of_le Y0 g.h.size
  have F0_0 : ∀ g : Grown W1, g.w.cell? ⟨w.heap.size, 0, none⟩ = some (.int .i64 x0) := fun g => (g.cell Y0).trans ((Below.cell hL1 (p := ⟨w.heap.size, 0, none⟩) s0).trans c0_0)
  have H0_0 : ∀ g : Grown W1, g.w.frozen? ⟨w.heap.size, 0, none⟩ = false := fun g => (g.frozen Y0).trans ((Below.frozen hL1 (p := ⟨w.heap.size, 0, none⟩) s0).trans d0_0)
  have F0_1 : ∀ g : Grown W1, g.w.cell? ⟨w.heap.size, 1, none⟩ = some (.int .i64 x1) := fun g => (g.cell Y0).trans ((Below.cell hL1 (p := ⟨w.heap.size, 1, none⟩) s0).trans c0_1)
  have H0_1 : ∀ g : Grown W1, g.w.frozen? ⟨w.heap.size, 1, none⟩ = false := fun g => (g.frozen Y0).trans ((Below.frozen hL1 (p := ⟨w.heap.size, 1, none⟩) s0).trans d0_1)
  have F0_2 : ∀ g : Grown W1, g.w.cell? ⟨w.heap.size, 2, none⟩ = some (.int .i64 x2) := fun g => (g.cell Y0).trans ((Below.cell hL1 (p := ⟨w.heap.size, 2, none⟩) s0).trans c0_2)
  have H0_2 : ∀ g : Grown W1, g.w.frozen? ⟨w.heap.size, 2, none⟩ = false := fun g => (g.frozen Y0).trans ((Below.frozen hL1 (p := ⟨w.heap.size, 2, none⟩) s0).trans d0_2)
  have F0_3 : ∀ g : Grown W1, g.w.cell? ⟨w.heap.size, 3, none⟩ = some (.int .i64 x3) := fun g => (g.cell Y0).trans ((Below.cell hL1 (p := ⟨w.heap.size, 3, none⟩) s0).trans c0_3)
  have H0_3 : ∀ g : Grown W1, g.w.frozen? ⟨w.heap.size, 3, none⟩ = false := fun g => (g.frozen Y0).trans ((Below.frozen hL1 (p := ⟨w.heap.size, 3, none⟩) s0).trans d0_3)
  have F0_4 : ∀ g : Grown W1, g.w.cell? ⟨w.heap.size, 4, none⟩ = some (.int .i32 x4) := fun g => (g.cell Y0).trans ((Below.cell hL1 (p := ⟨w.heap.size, 4, none⟩) s0).trans c0_4)
  have H0_4 : ∀ g : Grown W1, g.w.frozen? ⟨w.heap.size, 4, none⟩ = false := fun g => (g.frozen Y0).trans ((Below.frozen hL1 (p := ⟨w.heap.size, 4, none⟩) s0).trans d0_4)
  have F0_5 : ∀ g : Grown W1, g.w.cell? ⟨w.heap.size, 5, none⟩ = some (.int .u16 x5) := fun g => (g.cell Y0).trans ((Below.cell hL1 (p := ⟨w.heap.size, 5, none⟩) s0).trans c0_5)
  have H0_5 : ∀ g : Grown W1, g.w.frozen? ⟨w.heap.size, 5, none⟩ = false := fun g => (g.frozen Y0).trans ((Below.frozen hL1 (p := ⟨w.heap.size, 5, none⟩) s0).trans d0_5)
  clear Y0 s0 c0_0 d0_0 c0_1 d0_1 c0_2 d0_2 c0_3 d0_3 c0_4 d0_4 c0_5 d0_5
  have Y1 : b1x0 < W1.heap.size := by rw [← e1]; simp only [st2_size]; exact q0
  have S1 : ∀ g : Grown W1, b1x0 < g.w.heap.size := fun g => Nat.lt_of_lt_of_le Y1 g.h.size
  have F1_0 : ∀ g : Grown W1, g.w.cell? ⟨b1x0, 0, none⟩ = some (.int .i64 a) := fun g => (g.cell Y1).trans (by rw [← e1]; rw [st2_old n01]; exact st2_0 (u := .int .i64 0) (by exact u00))
  have H1_0 : ∀ g : Grown W1, g.w.frozen? ⟨b1x0, 0, none⟩ = false := fun g => (g.frozen Y1).trans (by rw [← e1]; simp only [st2_frozen]; exact v00)
  have F1_1 : ∀ g : Grown W1, g.w.cell? ⟨b1x0, 1, none⟩ = some (.int .i64 b) := fun g => (g.cell Y1).trans (by rw [← e1]; rw [st2_old n01]; exact st2_1 (u := .int .i64 0) (by exact u01))
  have H1_1 : ∀ g : Grown W1, g.w.frozen? ⟨b1x0, 1, none⟩ = false := fun g => (g.frozen Y1).trans (by rw [← e1]; simp only [st2_frozen]; exact v01)
  clear Y1
  have Y2 : b1x1 < W1.heap.size := by rw [← e1]; simp only [st2_size]; exact q1
  have S2 : ∀ g : Grown W1, b1x1 < g.w.heap.size := fun g => Nat.lt_of_lt_of_le Y2 g.h.size
  have F2_0 : ∀ g : Grown W1, g.w.cell? ⟨b1x1, 0, none⟩ = some (.int .i64 c) := fun g => (g.cell Y2).trans (by rw [← e1]; exact st2_0 (u := .int .i64 0) (by rw [st2_old (Ne.symm n01)]; exact u10))
  have H2_0 : ∀ g : Grown W1, g.w.frozen? ⟨b1x1, 0, none⟩ = false := fun g => (g.frozen Y2).trans (by rw [← e1]; simp only [st2_frozen]; exact v10)
  have F2_1 : ∀ g : Grown W1, g.w.cell? ⟨b1x1, 1, none⟩ = some (.int .i64 d) := fun g => (g.cell Y2).trans (by rw [← e1]; exact st2_1 (u := .int .i64 0) (by rw [st2_old (Ne.symm n01)]; exact u11))
  have H2_1 : ∀ g : Grown W1, g.w.frozen? ⟨b1x1, 1, none⟩ = false := fun g => (g.frozen Y2).trans (by rw [← e1]; simp only [st2_frozen]; exact v11)
  clear Y2
  clear e1 hL1 hT0 hBh u00 u01 v00 v01 p0 q0 u10 u11 v10 v11 p1 q1 n01
  obtain ⟨h1, hg1⟩ : ∃ g : Grown W1, W1 = g.w := ⟨⟨W1, Below.refl _ _⟩, rfl⟩
  rw [hg1]
  clear hg1 g1
  go_wp2_with (fail)
  refine (hea.out _).mono ?_
  rintro e2 w2 ⟨rfl, hB2⟩
  obtain ⟨g2, rfl⟩ := grow h1 hB2
  clear hB2
  go_wp2_with (fail)
  refine (heb.out _).mono ?_
  rintro e3 w3 ⟨rfl, hB3⟩
  obtain ⟨g3, rfl⟩ := grow g2 hB3
  clear hB3
  go_wp2_with (fail)
  refine region_pred (lk [(36, fun u _ => u = .pointer (some ⟨b1x0, 0, none⟩)), (37, fun u _ => u = .int .i64 a), (38, fun u _ => u = .pointer (some ⟨b1x0, 1, none⟩)), (39, fun u _ => u = .int .i64 b), (40, fun u w' => ∃ X, u = .slice (some ⟨X, 0, none⟩) 2 2 ∧ g3.w.heap.size ≤ X ∧ w'.heap[X]? = some (.cells #[.int .i64 a, .int .i64 b] 2 (0, 0))), (41, fun u _ => u = .pointer (some ⟨b1x1, 0, none⟩)), (42, fun u _ => u = .int .i64 c), (43, fun u _ => u = .pointer (some ⟨b1x1, 1, none⟩)), (44, fun u _ => u = .int .i64 d), (45, fun u w' => ∃ X, u = .slice (some ⟨X, 0, none⟩) 2 2 ∧ g3.w.heap.size ≤ X ∧ w'.heap[X]? = some (.cells #[.int .i64 c, .int .i64 d] 2 (0, 0))), (6, fun u w' => ∃ X, u = .slice (some ⟨X, 0, none⟩) 2 2 ∧ g3.w.heap.size ≤ X ∧ w'.heap[X]? = some (.cells #[.int .i64 a, .int .i64 b] 2 (0, 0))), (7, fun u w' => ∃ X, u = .slice (some ⟨X, 0, none⟩) 2 2 ∧ g3.w.heap.size ≤ X ∧ w'.heap[X]? = some (.cells #[.int .i64 c, .int .i64 d] 2 (0, 0)))]) (by kernel_rfl) (by kernel_rfl) (lk_steady _ ⟨steady_eq _, steady_eq _, steady_eq _, steady_eq _, steady_row, steady_eq _, steady_eq _, steady_eq _, steady_eq _, steady_row, steady_row, steady_row, trivial⟩) ?_ ?_
  · refine ⟨?_, ?_, ?_, ?_, ?_, ?_, ?_, ?_, ?_, ?_, ?_, ?_, trivial⟩
    · refine ob_plain [4] rfl rfl fun aa g h => ?_
      have e5 := getD_of (seen_out (v := .pointer (some ⟨b1x0, 0, none⟩)) rfl rfl h.1)
      simp [uponP, meets, lk, go_sem, e5]
      exact Below.refl _ _
    · refine ob_plain [36] rfl rfl fun aa g h => ?_
      obtain ⟨_, r5, rfl⟩ := seen_in rfl h.1
      have e5 := getD_of r5
      have hc := F1_0 (upg g3 g)
      dsimp only [upg] at hc
      simp [uponP, meets, lk, go_sem, e5, r5, hc]
      exact Below.refl _ _
    · refine ob_plain [4] rfl rfl fun aa g h => ?_
      have e5 := getD_of (seen_out (v := .pointer (some ⟨b1x0, 0, none⟩)) rfl rfl h.1)
      simp [uponP, meets, lk, go_sem, e5]
      exact Below.refl _ _
    · refine ob_plain [38] rfl rfl fun aa g h => ?_
      obtain ⟨_, r5, rfl⟩ := seen_in rfl h.1
      have e5 := getD_of r5
      have hc := F1_1 (upg g3 g)
      dsimp only [upg] at hc
      simp [uponP, meets, lk, go_sem, e5, r5, hc]
      exact Below.refl _ _
    · refine ob_plain [37, 39] rfl rfl fun aa g h => ?_
      obtain ⟨_, r5, rfl⟩ := seen_in rfl h.1
      obtain ⟨_, r6, rfl⟩ := seen_in rfl h.2.1
      have e5 := getD_of r5
      have e6 := getD_of r6
      simp [uponP, meets, lk, go_sem, e5, r5, e6, r6]
      exact ⟨(Below.refl _ _).alloc (Nat.le_refl _) _, g.h.size, Option.some.inj ((Array.getElem?_eq_getElem _).symm.trans (World.alloc_heap_new _ _))⟩
    · refine ob_plain [5] rfl rfl fun aa g h => ?_
      have e5 := getD_of (seen_out (v := .pointer (some ⟨b1x1, 0, none⟩)) rfl rfl h.1)
      simp [uponP, meets, lk, go_sem, e5]
      exact Below.refl _ _
    · refine ob_plain [41] rfl rfl fun aa g h => ?_
      obtain ⟨_, r5, rfl⟩ := seen_in rfl h.1
      have e5 := getD_of r5
      have hc := F2_0 (upg g3 g)
      dsimp only [upg] at hc
      simp [uponP, meets, lk, go_sem, e5, r5, hc]
      exact Below.refl _ _
    · refine ob_plain [5] rfl rfl fun aa g h => ?_
      have e5 := getD_of (seen_out (v := .pointer (some ⟨b1x1, 0, none⟩)) rfl rfl h.1)
      simp [uponP, meets, lk, go_sem, e5]
      exact Below.refl _ _
    · refine ob_plain [43] rfl rfl fun aa g h => ?_
      obtain ⟨_, r5, rfl⟩ := seen_in rfl h.1
      have e5 := getD_of r5
      have hc := F2_1 (upg g3 g)
      dsimp only [upg] at hc
      simp [uponP, meets, lk, go_sem, e5, r5, hc]
      exact Below.refl _ _
    · refine ob_plain [42, 44] rfl rfl fun aa g h => ?_
      obtain ⟨_, r5, rfl⟩ := seen_in rfl h.1
      obtain ⟨_, r6, rfl⟩ := seen_in rfl h.2.1
      have e5 := getD_of r5
      have e6 := getD_of r6
      simp [uponP, meets, lk, go_sem, e5, r5, e6, r6]
      exact ⟨(Below.refl _ _).alloc (Nat.le_refl _) _, g.h.size, Option.some.inj ((Array.getElem?_eq_getElem _).symm.trans (World.alloc_heap_new _ _))⟩
    · refine ob_plain [40] rfl rfl fun aa g h => ?_
      obtain ⟨_, r5, ⟨X, rfl, hX1, hX2⟩⟩ := seen_in rfl h.1
      have e5 := getD_of r5
      simp [uponP, meets, lk, go_sem, e5, r5]
      exact ⟨Below.refl _ _, hX1, hX2⟩
    · refine ob_plain [45] rfl rfl fun aa g h => ?_
      obtain ⟨_, r5, ⟨X, rfl, hX1, hX2⟩⟩ := seen_in rfl h.1
      have e5 := getD_of r5
      simp [uponP, meets, lk, go_sem, e5, r5]
      exact ⟨Below.refl _ _, hX1, hX2⟩
  · intro W2 hL2
    rintro _ rfl _ rfl _ rfl _ rfl _ ⟨X', rfl, t1, t2⟩ _ rfl _ rfl _ rfl _ rfl _ ⟨Y', rfl, t3, t4⟩ _ ⟨X, rfl, hX0, hX⟩ _ ⟨Y, rfl, hY0, hY⟩
    clear t1 t2 t3 t4
    refine finP_nil ?_
    simp only [Act.put, List.setIfInBounds_toArray, List.set_cons_succ, List.set_cons_zero, finP]
    have hT2 : Below w.heap.size w W2 := below_then (below_then hT1 g3.h) hL2
    have s0 := S0 g3
    have Y0 : w.heap.size < W2.heap.size := Nat.lt_of_lt_of_le s0 hL2.size
    have c0_0 := F0_0 g3
    have d0_0 := H0_0 g3
    have c0_1 := F0_1 g3
    have d0_1 := H0_1 g3
    have c0_2 := F0_2 g3
    have d0_2 := H0_2 g3
    have c0_3 := F0_3 g3
    have d0_3 := H0_3 g3
    have c0_4 := F0_4 g3
    have d0_4 := H0_4 g3
    have c0_5 := F0_5 g3
    have d0_5 := H0_5 g3
    clear S0 F0_0 H0_0 F0_1 H0_1 F0_2 H0_2 F0_3 H0_3 F0_4 H0_4 F0_5 H0_5
    have S0 : ∀ g : Grown W2, w.heap.size < g.w.heap.size := fun g => Nat.lt_of_lt_of_le Y0 g.h.size
    have F0_0 : ∀ g : Grown W2, g.w.cell? ⟨w.heap.size, 0, none⟩ = some (.int .i64 x0) := fun g => (g.cell Y0).trans ((Below.cell hL2 (p := ⟨w.heap.size, 0, none⟩) s0).trans c0_0)
    have H0_0 : ∀ g : Grown W2, g.w.frozen? ⟨w.heap.size, 0, none⟩ = false := fun g => (g.frozen Y0).trans ((Below.frozen hL2 (p := ⟨w.heap.size, 0, none⟩) s0).trans d0_0)
    have F0_1 : ∀ g : Grown W2, g.w.cell? ⟨w.heap.size, 1, none⟩ = some (.int .i64 x1) := fun g => (g.cell Y0).trans ((Below.cell hL2 (p := ⟨w.heap.size, 1, none⟩) s0).trans c0_1)
    have H0_1 : ∀ g : Grown W2, g.w.frozen? ⟨w.heap.size, 1, none⟩ = false := fun g => (g.frozen Y0).trans ((Below.frozen hL2 (p := ⟨w.heap.size, 1, none⟩) s0).trans d0_1)
    have F0_2 : ∀ g : Grown W2, g.w.cell? ⟨w.heap.size, 2, none⟩ = some (.int .i64 x2) := fun g => (g.cell Y0).trans ((Below.cell hL2 (p := ⟨w.heap.size, 2, none⟩) s0).trans c0_2)
    have H0_2 : ∀ g : Grown W2, g.w.frozen? ⟨w.heap.size, 2, none⟩ = false := fun g => (g.frozen Y0).trans ((Below.frozen hL2 (p := ⟨w.heap.size, 2, none⟩) s0).trans d0_2)
    have F0_3 : ∀ g : Grown W2, g.w.cell? ⟨w.heap.size, 3, none⟩ = some (.int .i64 x3) := fun g => (g.cell Y0).trans ((Below.cell hL2 (p := ⟨w.heap.size, 3, none⟩) s0).trans c0_3)
    have H0_3 : ∀ g : Grown W2, g.w.frozen? ⟨w.heap.size, 3, none⟩ = false := fun g => (g.frozen Y0).trans ((Below.frozen hL2 (p := ⟨w.heap.size, 3, none⟩) s0).trans d0_3)
    have F0_4 : ∀ g : Grown W2, g.w.cell? ⟨w.heap.size, 4, none⟩ = some (.int .i32 x4) := fun g => (g.cell Y0).trans ((Below.cell hL2 (p := ⟨w.heap.size, 4, none⟩) s0).trans c0_4)
    have H0_4 : ∀ g : Grown W2, g.w.frozen? ⟨w.heap.size, 4, none⟩ = false := fun g => (g.frozen Y0).trans ((Below.frozen hL2 (p := ⟨w.heap.size, 4, none⟩) s0).trans d0_4)
    have F0_5 : ∀ g : Grown W2, g.w.cell? ⟨w.heap.size, 5, none⟩ = some (.int .u16 x5) := fun g => (g.cell Y0).trans ((Below.cell hL2 (p := ⟨w.heap.size, 5, none⟩) s0).trans c0_5)
    have H0_5 : ∀ g : Grown W2, g.w.frozen? ⟨w.heap.size, 5, none⟩ = false := fun g => (g.frozen Y0).trans ((Below.frozen hL2 (p := ⟨w.heap.size, 5, none⟩) s0).trans d0_5)
    clear Y0 s0 c0_0 d0_0 c0_1 d0_1 c0_2 d0_2 c0_3 d0_3 c0_4 d0_4 c0_5 d0_5
    have s1 := S1 g3
    have Y1 : b1x0 < W2.heap.size := Nat.lt_of_lt_of_le s1 hL2.size
    have c1_0 := F1_0 g3
    have d1_0 := H1_0 g3
    have c1_1 := F1_1 g3
    have d1_1 := H1_1 g3
    clear S1 F1_0 H1_0 F1_1 H1_1
    have S1 : ∀ g : Grown W2, b1x0 < g.w.heap.size := fun g => Nat.lt_of_lt_of_le Y1 g.h.size
    have F1_0 : ∀ g : Grown W2, g.w.cell? ⟨b1x0, 0, none⟩ = some (.int .i64 a) := fun g => (g.cell Y1).trans ((Below.cell hL2 (p := ⟨b1x0, 0, none⟩) s1).trans c1_0)
    have H1_0 : ∀ g : Grown W2, g.w.frozen? ⟨b1x0, 0, none⟩ = false := fun g => (g.frozen Y1).trans ((Below.frozen hL2 (p := ⟨b1x0, 0, none⟩) s1).trans d1_0)
    have F1_1 : ∀ g : Grown W2, g.w.cell? ⟨b1x0, 1, none⟩ = some (.int .i64 b) := fun g => (g.cell Y1).trans ((Below.cell hL2 (p := ⟨b1x0, 1, none⟩) s1).trans c1_1)
    have H1_1 : ∀ g : Grown W2, g.w.frozen? ⟨b1x0, 1, none⟩ = false := fun g => (g.frozen Y1).trans ((Below.frozen hL2 (p := ⟨b1x0, 1, none⟩) s1).trans d1_1)
    clear Y1 s1 c1_0 d1_0 c1_1 d1_1
    have s2 := S2 g3
    have Y2 : b1x1 < W2.heap.size := Nat.lt_of_lt_of_le s2 hL2.size
    have c2_0 := F2_0 g3
    have d2_0 := H2_0 g3
    have c2_1 := F2_1 g3
    have d2_1 := H2_1 g3
    clear S2 F2_0 H2_0 F2_1 H2_1
    have S2 : ∀ g : Grown W2, b1x1 < g.w.heap.size := fun g => Nat.lt_of_lt_of_le Y2 g.h.size
    have F2_0 : ∀ g : Grown W2, g.w.cell? ⟨b1x1, 0, none⟩ = some (.int .i64 c) := fun g => (g.cell Y2).trans ((Below.cell hL2 (p := ⟨b1x1, 0, none⟩) s2).trans c2_0)
    have H2_0 : ∀ g : Grown W2, g.w.frozen? ⟨b1x1, 0, none⟩ = false := fun g => (g.frozen Y2).trans ((Below.frozen hL2 (p := ⟨b1x1, 0, none⟩) s2).trans d2_0)
    have F2_1 : ∀ g : Grown W2, g.w.cell? ⟨b1x1, 1, none⟩ = some (.int .i64 d) := fun g => (g.cell Y2).trans ((Below.cell hL2 (p := ⟨b1x1, 1, none⟩) s2).trans c2_1)
    have H2_1 : ∀ g : Grown W2, g.w.frozen? ⟨b1x1, 1, none⟩ = false := fun g => (g.frozen Y2).trans ((Below.frozen hL2 (p := ⟨b1x1, 1, none⟩) s2).trans d2_1)
    clear Y2 s2 c2_0 d2_0 c2_1 d2_1
    have Y3 : X < W2.heap.size := (Array.getElem?_eq_some_iff.1 hX).1
    have S3 : ∀ g : Grown W2, X < g.w.heap.size := fun g => Nat.lt_of_lt_of_le Y3 g.h.size
    have F3_0 : ∀ g : Grown W2, g.w.cell? ⟨X, 0, none⟩ = some (.int .i64 a) := fun g => (g.cell Y3).trans (by simp [World.cell?, hX])
    have H3_0 : ∀ g : Grown W2, g.w.frozen? ⟨X, 0, none⟩ = false := fun g => (g.frozen Y3).trans (by simp [World.frozen?, hX])
    have F3_1 : ∀ g : Grown W2, g.w.cell? ⟨X, 1, none⟩ = some (.int .i64 b) := fun g => (g.cell Y3).trans (by simp [World.cell?, hX])
    have H3_1 : ∀ g : Grown W2, g.w.frozen? ⟨X, 1, none⟩ = false := fun g => (g.frozen Y3).trans (by simp [World.frozen?, hX])
    clear Y3
    have Y4 : Y < W2.heap.size := (Array.getElem?_eq_some_iff.1 hY).1
    have S4 : ∀ g : Grown W2, Y < g.w.heap.size := fun g => Nat.lt_of_lt_of_le Y4 g.h.size
    have F4_0 : ∀ g : Grown W2, g.w.cell? ⟨Y, 0, none⟩ = some (.int .i64 c) := fun g => (g.cell Y4).trans (by simp [World.cell?, hY])
    have H4_0 : ∀ g : Grown W2, g.w.frozen? ⟨Y, 0, none⟩ = false := fun g => (g.frozen Y4).trans (by simp [World.frozen?, hY])
    have F4_1 : ∀ g : Grown W2, g.w.cell? ⟨Y, 1, none⟩ = some (.int .i64 d) := fun g => (g.cell Y4).trans (by simp [World.cell?, hY])
    have H4_1 : ∀ g : Grown W2, g.w.frozen? ⟨Y, 1, none⟩ = false := fun g => (g.frozen Y4).trans (by simp [World.frozen?, hY])
    clear Y4
    clear hX hY hX0 hY0 hT1 hL2
    obtain ⟨h2, hg2⟩ : ∃ g : Grown W2, W2 = g.w := ⟨⟨W2, Below.refl _ _⟩, rfl⟩
    rw [hg2]
    clear hg2 g3
    go_wp2_with (fail)
    refine region_data 15 23 _ (by kernel_rfl) new_iv (by kernel_rfl) ?_
    refine data_op _ rfl (RQ_load rfl rfl (load_iv_at (S1 _) (F1_0 _) (F1_1 _))) ?_
    simp only [Act.put, List.setIfInBounds_toArray, List.set_cons_succ, List.set_cons_zero]
    refine data_op _ rfl (RQ_load rfl rfl (load_iv_at (S2 _) (F2_0 _) (F2_1 _))) ?_
    simp only [Act.put, List.setIfInBounds_toArray, List.set_cons_succ, List.set_cons_zero]
    refine data_op _ rfl (RQ_call hmu.out (fun _ => by simp [go_sem])) ?_
    simp only [Act.put, List.setIfInBounds_toArray, List.set_cons_succ, List.set_cons_zero]
    refine data_op _ rfl (RQ_load rfl rfl (load_iv_at (S1 _) (F1_0 _) (F1_1 _))) ?_
    simp only [Act.put, List.setIfInBounds_toArray, List.set_cons_succ, List.set_cons_zero]
    refine data_op _ rfl (RQ_call hsq.out (fun _ => by simp [go_sem])) ?_
    simp only [Act.put, List.setIfInBounds_toArray, List.set_cons_succ, List.set_cons_zero]
    refine data_op _ rfl (RQ_load rfl rfl (load_iv_at (S1 _) (F1_0 _) (F1_1 _))) ?_
    simp only [Act.put, List.setIfInBounds_toArray, List.set_cons_succ, List.set_cons_zero]
    refine data_op _ rfl (RQ_load rfl rfl (load_iv_at (S2 _) (F2_0 _) (F2_1 _))) ?_
    simp only [Act.put, List.setIfInBounds_toArray, List.set_cons_succ, List.set_cons_zero]
    refine data_op _ rfl (RQ_call hdv.out (fun _ => by simp [go_sem])) ?_
    simp only [Act.put, List.setIfInBounds_toArray, List.set_cons_succ, List.set_cons_zero]
    refine data_op _ rfl (RQ_load rfl rfl (load_iv_at (S1 _) (F1_0 _) (F1_1 _))) ?_
    simp only [Act.put, List.setIfInBounds_toArray, List.set_cons_succ, List.set_cons_zero]
    refine data_op _ rfl (RQ_load rfl rfl (load_iv_at (S2 _) (F2_0 _) (F2_1 _))) ?_
    simp only [Act.put, List.setIfInBounds_toArray, List.set_cons_succ, List.set_cons_zero]
    refine data_op _ rfl (RQ_call had.out (fun _ => by simp [go_sem])) ?_
    simp only [Act.put, List.setIfInBounds_toArray, List.set_cons_succ, List.set_cons_zero]
    refine data_al rfl ?_
    simp only [Act.put, List.setIfInBounds_toArray, List.set_cons_succ, List.set_cons_zero]
    refine data_al rfl ?_
    simp only [Act.put, List.setIfInBounds_toArray, List.set_cons_succ, List.set_cons_zero]
    refine data_al rfl ?_
    simp only [Act.put, List.setIfInBounds_toArray, List.set_cons_succ, List.set_cons_zero]
    refine data_al rfl ?_
    simp only [Act.put, List.setIfInBounds_toArray, List.set_cons_succ, List.set_cons_zero]
    refine data_end ?_
    intro wh hBh
    simp only [Act.put, List.drop_succ_cons, List.drop_zero, List.take_succ_cons, List.take_zero, alDsts, List.filterMap_cons, List.filterMap_nil, isAl, Bool.false_eq_true, if_false, if_true, finK]
    intro b3x0 p0 q0 r0 o0
    intro b3x1 p1 q1 r1 o1
    intro b3x2 p2 q2 r2 o2
    intro b3x3 p3 q3 r3 o3
    obtain ⟨u00, u01, v00, v01⟩ := new_cell o0
    obtain ⟨u10, u11, v10, v11⟩ := new_cell o1
    have n01 : b3x0 ≠ b3x1 := r1 b3x0 (by simp)
    obtain ⟨u20, u21, v20, v21⟩ := new_cell o2
    have n02 : b3x0 ≠ b3x2 := r2 b3x0 (by simp)
    have n12 : b3x1 ≠ b3x2 := r2 b3x1 (by simp)
    obtain ⟨u30, u31, v30, v31⟩ := new_cell o3
    have n03 : b3x0 ≠ b3x3 := r3 b3x0 (by simp)
    have n13 : b3x1 ≠ b3x3 := r3 b3x1 (by simp)
    have n23 : b3x2 ≠ b3x3 := r3 b3x2 (by simp)
    clear r0 o0 r1 o1 r2 o2 r3 o3
    simp only [List.setIfInBounds_toArray, List.set_cons_succ, List.set_cons_zero]
    refine list_store rfl rfl rfl rfl rfl (by exact u00) (by exact u01) (by exact v00) (by exact v01) ?_
    refine list_store rfl rfl rfl rfl rfl (by rw [st2_old (Ne.symm n01)]; exact u10) (by rw [st2_old (Ne.symm n01)]; exact u11) (by simp only [st2_frozen]; exact v10) (by simp only [st2_frozen]; exact v11) ?_
    refine list_store rfl rfl rfl rfl rfl (by rw [st2_old (Ne.symm n12)]; rw [st2_old (Ne.symm n02)]; exact u20) (by rw [st2_old (Ne.symm n12)]; rw [st2_old (Ne.symm n02)]; exact u21) (by simp only [st2_frozen]; exact v20) (by simp only [st2_frozen]; exact v21) ?_
    refine list_store rfl rfl rfl rfl rfl (by rw [st2_old (Ne.symm n23)]; rw [st2_old (Ne.symm n13)]; rw [st2_old (Ne.symm n03)]; exact u30) (by rw [st2_old (Ne.symm n23)]; rw [st2_old (Ne.symm n13)]; rw [st2_old (Ne.symm n03)]; exact u31) (by simp only [st2_frozen]; exact v30) (by simp only [st2_frozen]; exact v31) ?_
    refine wpList_nil ?_
    generalize e3 : (st2 (st2 (st2 (st2 wh b3x0 (.int .i64 mp1) (.int .i64 mp2)) b3x1 (.int .i64 ss1) (.int .i64 ss2)) b3x2 (.int .i64 qq1) (.int .i64 qq2)) b3x3 (.int .i64 uu1) (.int .i64 uu2)) = W3
    have hL3 : Below h2.w.heap.size h2.w W3 := by rw [← e3]; exact (st2_below (st2_below (st2_below (st2_below hBh p0) p1) p2) p3)
    have hT3 : Below w.heap.size w W3 := below_then (below_then hT2 h2.h) hL3
    have s0 := S0 h2
    have Y0 : w.heap.size < W3.heap.size := Nat.lt_of_lt_of_le s0 hL3.size
    have c0_0 := F0_0 h2
    have d0_0 := H0_0 h2
    have c0_1 := F0_1 h2
    have d0_1 := H0_1 h2
    have c0_2 := F0_2 h2
    have d0_2 := H0_2 h2
    have c0_3 := F0_3 h2
    have d0_3 := H0_3 h2
    have c0_4 := F0_4 h2
    have d0_4 := H0_4 h2
    have c0_5 := F0_5 h2
    have d0_5 := H0_5 h2
    clear S0 F0_0 H0_0 F0_1 H0_1 F0_2 H0_2 F0_3 H0_3 F0_4 H0_4 F0_5 H0_5
    have S0 : ∀ g : Grown W3, w.heap.size < g.w.heap.size := fun g => Nat.lt_of_lt_of_le Y0 g.h.size
    have F0_0 : ∀ g : Grown W3, g.w.cell? ⟨w.heap.size, 0, none⟩ = some (.int .i64 x0) := fun g => (g.cell Y0).trans ((Below.cell hL3 (p := ⟨w.heap.size, 0, none⟩) s0).trans c0_0)
    have H0_0 : ∀ g : Grown W3, g.w.frozen? ⟨w.heap.size, 0, none⟩ = false := fun g => (g.frozen Y0).trans ((Below.frozen hL3 (p := ⟨w.heap.size, 0, none⟩) s0).trans d0_0)
    have F0_1 : ∀ g : Grown W3, g.w.cell? ⟨w.heap.size, 1, none⟩ = some (.int .i64 x1) := fun g => (g.cell Y0).trans ((Below.cell hL3 (p := ⟨w.heap.size, 1, none⟩) s0).trans c0_1)
    have H0_1 : ∀ g : Grown W3, g.w.frozen? ⟨w.heap.size, 1, none⟩ = false := fun g => (g.frozen Y0).trans ((Below.frozen hL3 (p := ⟨w.heap.size, 1, none⟩) s0).trans d0_1)
    have F0_2 : ∀ g : Grown W3, g.w.cell? ⟨w.heap.size, 2, none⟩ = some (.int .i64 x2) := fun g => (g.cell Y0).trans ((Below.cell hL3 (p := ⟨w.heap.size, 2, none⟩) s0).trans c0_2)
    have H0_2 : ∀ g : Grown W3, g.w.frozen? ⟨w.heap.size, 2, none⟩ = false := fun g => (g.frozen Y0).trans ((Below.frozen hL3 (p := ⟨w.heap.size, 2, none⟩) s0).trans d0_2)
    have F0_3 : ∀ g : Grown W3, g.w.cell? ⟨w.heap.size, 3, none⟩ = some (.int .i64 x3) := fun g => (g.cell Y0).trans ((Below.cell hL3 (p := ⟨w.heap.size, 3, none⟩) s0).trans c0_3)
    have H0_3 : ∀ g : Grown W3, g.w.frozen? ⟨w.heap.size, 3, none⟩ = false := fun g => (g.frozen Y0).trans ((Below.frozen hL3 (p := ⟨w.heap.size, 3, none⟩) s0).trans d0_3)
    have F0_4 : ∀ g : Grown W3, g.w.cell? ⟨w.heap.size, 4, none⟩ = some (.int .i32 x4) := fun g => (g.cell Y0).trans ((Below.cell hL3 (p := ⟨w.heap.size, 4, none⟩) s0).trans c0_4)
    have H0_4 : ∀ g : Grown W3, g.w.frozen? ⟨w.heap.size, 4, none⟩ = false := fun g => (g.frozen Y0).trans ((Below.frozen hL3 (p := ⟨w.heap.size, 4, none⟩) s0).trans d0_4)
    have F0_5 : ∀ g : Grown W3, g.w.cell? ⟨w.heap.size, 5, none⟩ = some (.int .u16 x5) := fun g => (g.cell Y0).trans ((Below.cell hL3 (p := ⟨w.heap.size, 5, none⟩) s0).trans c0_5)
    have H0_5 : ∀ g : Grown W3, g.w.frozen? ⟨w.heap.size, 5, none⟩ = false := fun g => (g.frozen Y0).trans ((Below.frozen hL3 (p := ⟨w.heap.size, 5, none⟩) s0).trans d0_5)
    clear Y0 s0 c0_0 d0_0 c0_1 d0_1 c0_2 d0_2 c0_3 d0_3 c0_4 d0_4 c0_5 d0_5
    have s1 := S1 h2
    have Y1 : b1x0 < W3.heap.size := Nat.lt_of_lt_of_le s1 hL3.size
    have c1_0 := F1_0 h2
    have d1_0 := H1_0 h2
    have c1_1 := F1_1 h2
    have d1_1 := H1_1 h2
    clear S1 F1_0 H1_0 F1_1 H1_1
    have S1 : ∀ g : Grown W3, b1x0 < g.w.heap.size := fun g => Nat.lt_of_lt_of_le Y1 g.h.size
    have F1_0 : ∀ g : Grown W3, g.w.cell? ⟨b1x0, 0, none⟩ = some (.int .i64 a) := fun g => (g.cell Y1).trans ((Below.cell hL3 (p := ⟨b1x0, 0, none⟩) s1).trans c1_0)
    have H1_0 : ∀ g : Grown W3, g.w.frozen? ⟨b1x0, 0, none⟩ = false := fun g => (g.frozen Y1).trans ((Below.frozen hL3 (p := ⟨b1x0, 0, none⟩) s1).trans d1_0)
    have F1_1 : ∀ g : Grown W3, g.w.cell? ⟨b1x0, 1, none⟩ = some (.int .i64 b) := fun g => (g.cell Y1).trans ((Below.cell hL3 (p := ⟨b1x0, 1, none⟩) s1).trans c1_1)
    have H1_1 : ∀ g : Grown W3, g.w.frozen? ⟨b1x0, 1, none⟩ = false := fun g => (g.frozen Y1).trans ((Below.frozen hL3 (p := ⟨b1x0, 1, none⟩) s1).trans d1_1)
    clear Y1 s1 c1_0 d1_0 c1_1 d1_1
    have s2 := S2 h2
    have Y2 : b1x1 < W3.heap.size := Nat.lt_of_lt_of_le s2 hL3.size
    have c2_0 := F2_0 h2
    have d2_0 := H2_0 h2
    have c2_1 := F2_1 h2
    have d2_1 := H2_1 h2
    clear S2 F2_0 H2_0 F2_1 H2_1
    have S2 : ∀ g : Grown W3, b1x1 < g.w.heap.size := fun g => Nat.lt_of_lt_of_le Y2 g.h.size
    have F2_0 : ∀ g : Grown W3, g.w.cell? ⟨b1x1, 0, none⟩ = some (.int .i64 c) := fun g => (g.cell Y2).trans ((Below.cell hL3 (p := ⟨b1x1, 0, none⟩) s2).trans c2_0)
    have H2_0 : ∀ g : Grown W3, g.w.frozen? ⟨b1x1, 0, none⟩ = false := fun g => (g.frozen Y2).trans ((Below.frozen hL3 (p := ⟨b1x1, 0, none⟩) s2).trans d2_0)
    have F2_1 : ∀ g : Grown W3, g.w.cell? ⟨b1x1, 1, none⟩ = some (.int .i64 d) := fun g => (g.cell Y2).trans ((Below.cell hL3 (p := ⟨b1x1, 1, none⟩) s2).trans c2_1)
    have H2_1 : ∀ g : Grown W3, g.w.frozen? ⟨b1x1, 1, none⟩ = false := fun g => (g.frozen Y2).trans ((Below.frozen hL3 (p := ⟨b1x1, 1, none⟩) s2).trans d2_1)
    clear Y2 s2 c2_0 d2_0 c2_1 d2_1
    have s3 := S3 h2
    have Y3 : X < W3.heap.size := Nat.lt_of_lt_of_le s3 hL3.size
    have c3_0 := F3_0 h2
    have d3_0 := H3_0 h2
    have c3_1 := F3_1 h2
    have d3_1 := H3_1 h2
    clear S3 F3_0 H3_0 F3_1 H3_1
    have S3 : ∀ g : Grown W3, X < g.w.heap.size := fun g => Nat.lt_of_lt_of_le Y3 g.h.size
    have F3_0 : ∀ g : Grown W3, g.w.cell? ⟨X, 0, none⟩ = some (.int .i64 a) := fun g => (g.cell Y3).trans ((Below.cell hL3 (p := ⟨X, 0, none⟩) s3).trans c3_0)
    have H3_0 : ∀ g : Grown W3, g.w.frozen? ⟨X, 0, none⟩ = false := fun g => (g.frozen Y3).trans ((Below.frozen hL3 (p := ⟨X, 0, none⟩) s3).trans d3_0)
    have F3_1 : ∀ g : Grown W3, g.w.cell? ⟨X, 1, none⟩ = some (.int .i64 b) := fun g => (g.cell Y3).trans ((Below.cell hL3 (p := ⟨X, 1, none⟩) s3).trans c3_1)
    have H3_1 : ∀ g : Grown W3, g.w.frozen? ⟨X, 1, none⟩ = false := fun g => (g.frozen Y3).trans ((Below.frozen hL3 (p := ⟨X, 1, none⟩) s3).trans d3_1)
    clear Y3 s3 c3_0 d3_0 c3_1 d3_1
    have s4 := S4 h2
    have Y4 : Y < W3.heap.size := Nat.lt_of_lt_of_le s4 hL3.size
    have c4_0 := F4_0 h2
    have d4_0 := H4_0 h2
    have c4_1 := F4_1 h2
    have d4_1 := H4_1 h2
    clear S4 F4_0 H4_0 F4_1 H4_1
    have S4 : ∀ g : Grown W3, Y < g.w.heap.size := fun g => Nat.lt_of_lt_of_le Y4 g.h.size
    have F4_0 : ∀ g : Grown W3, g.w.cell? ⟨Y, 0, none⟩ = some (.int .i64 c) := fun g => (g.cell Y4).trans ((Below.cell hL3 (p := ⟨Y, 0, none⟩) s4).trans c4_0)
    have H4_0 : ∀ g : Grown W3, g.w.frozen? ⟨Y, 0, none⟩ = false := fun g => (g.frozen Y4).trans ((Below.frozen hL3 (p := ⟨Y, 0, none⟩) s4).trans d4_0)
    have F4_1 : ∀ g : Grown W3, g.w.cell? ⟨Y, 1, none⟩ = some (.int .i64 d) := fun g => (g.cell Y4).trans ((Below.cell hL3 (p := ⟨Y, 1, none⟩) s4).trans c4_1)
    have H4_1 : ∀ g : Grown W3, g.w.frozen? ⟨Y, 1, none⟩ = false := fun g => (g.frozen Y4).trans ((Below.frozen hL3 (p := ⟨Y, 1, none⟩) s4).trans d4_1)
    clear Y4 s4 c4_0 d4_0 c4_1 d4_1
    have Y5 : b3x0 < W3.heap.size := by rw [← e3]; simp only [st2_size]; exact q0
    have S5 : ∀ g : Grown W3, b3x0 < g.w.heap.size := fun g => Nat.lt_of_lt_of_le Y5 g.h.size
    have F5_0 : ∀ g : Grown W3, g.w.cell? ⟨b3x0, 0, none⟩ = some (.int .i64 mp1) := fun g => (g.cell Y5).trans (by rw [← e3]; rw [st2_old n03]; rw [st2_old n02]; rw [st2_old n01]; exact st2_0 (u := .int .i64 0) (by exact u00))
    have H5_0 : ∀ g : Grown W3, g.w.frozen? ⟨b3x0, 0, none⟩ = false := fun g => (g.frozen Y5).trans (by rw [← e3]; simp only [st2_frozen]; exact v00)
    have F5_1 : ∀ g : Grown W3, g.w.cell? ⟨b3x0, 1, none⟩ = some (.int .i64 mp2) := fun g => (g.cell Y5).trans (by rw [← e3]; rw [st2_old n03]; rw [st2_old n02]; rw [st2_old n01]; exact st2_1 (u := .int .i64 0) (by exact u01))
    have H5_1 : ∀ g : Grown W3, g.w.frozen? ⟨b3x0, 1, none⟩ = false := fun g => (g.frozen Y5).trans (by rw [← e3]; simp only [st2_frozen]; exact v01)
    clear Y5
    have Y6 : b3x1 < W3.heap.size := by rw [← e3]; simp only [st2_size]; exact q1
    have S6 : ∀ g : Grown W3, b3x1 < g.w.heap.size := fun g => Nat.lt_of_lt_of_le Y6 g.h.size
    have F6_0 : ∀ g : Grown W3, g.w.cell? ⟨b3x1, 0, none⟩ = some (.int .i64 ss1) := fun g => (g.cell Y6).trans (by rw [← e3]; rw [st2_old n13]; rw [st2_old n12]; exact st2_0 (u := .int .i64 0) (by rw [st2_old (Ne.symm n01)]; exact u10))
    have H6_0 : ∀ g : Grown W3, g.w.frozen? ⟨b3x1, 0, none⟩ = false := fun g => (g.frozen Y6).trans (by rw [← e3]; simp only [st2_frozen]; exact v10)
    have F6_1 : ∀ g : Grown W3, g.w.cell? ⟨b3x1, 1, none⟩ = some (.int .i64 ss2) := fun g => (g.cell Y6).trans (by rw [← e3]; rw [st2_old n13]; rw [st2_old n12]; exact st2_1 (u := .int .i64 0) (by rw [st2_old (Ne.symm n01)]; exact u11))
    have H6_1 : ∀ g : Grown W3, g.w.frozen? ⟨b3x1, 1, none⟩ = false := fun g => (g.frozen Y6).trans (by rw [← e3]; simp only [st2_frozen]; exact v11)
    clear Y6
    have Y7 : b3x2 < W3.heap.size := by rw [← e3]; simp only [st2_size]; exact q2
    have S7 : ∀ g : Grown W3, b3x2 < g.w.heap.size := fun g => Nat.lt_of_lt_of_le Y7 g.h.size
    have F7_0 : ∀ g : Grown W3, g.w.cell? ⟨b3x2, 0, none⟩ = some (.int .i64 qq1) := fun g => (g.cell Y7).trans (by rw [← e3]; rw [st2_old n23]; exact st2_0 (u := .int .i64 0) (by rw [st2_old (Ne.symm n12)]; rw [st2_old (Ne.symm n02)]; exact u20))
    have H7_0 : ∀ g : Grown W3, g.w.frozen? ⟨b3x2, 0, none⟩ = false := fun g => (g.frozen Y7).trans (by rw [← e3]; simp only [st2_frozen]; exact v20)
    have F7_1 : ∀ g : Grown W3, g.w.cell? ⟨b3x2, 1, none⟩ = some (.int .i64 qq2) := fun g => (g.cell Y7).trans (by rw [← e3]; rw [st2_old n23]; exact st2_1 (u := .int .i64 0) (by rw [st2_old (Ne.symm n12)]; rw [st2_old (Ne.symm n02)]; exact u21))
    have H7_1 : ∀ g : Grown W3, g.w.frozen? ⟨b3x2, 1, none⟩ = false := fun g => (g.frozen Y7).trans (by rw [← e3]; simp only [st2_frozen]; exact v21)
    clear Y7
    have Y8 : b3x3 < W3.heap.size := by rw [← e3]; simp only [st2_size]; exact q3
    have S8 : ∀ g : Grown W3, b3x3 < g.w.heap.size := fun g => Nat.lt_of_lt_of_le Y8 g.h.size
    have F8_0 : ∀ g : Grown W3, g.w.cell? ⟨b3x3, 0, none⟩ = some (.int .i64 uu1) := fun g => (g.cell Y8).trans (by rw [← e3]; exact st2_0 (u := .int .i64 0) (by rw [st2_old (Ne.symm n23)]; rw [st2_old (Ne.symm n13)]; rw [st2_old (Ne.symm n03)]; exact u30))
    have H8_0 : ∀ g : Grown W3, g.w.frozen? ⟨b3x3, 0, none⟩ = false := fun g => (g.frozen Y8).trans (by rw [← e3]; simp only [st2_frozen]; exact v30)
    have F8_1 : ∀ g : Grown W3, g.w.cell? ⟨b3x3, 1, none⟩ = some (.int .i64 uu2) := fun g => (g.cell Y8).trans (by rw [← e3]; exact st2_1 (u := .int .i64 0) (by rw [st2_old (Ne.symm n23)]; rw [st2_old (Ne.symm n13)]; rw [st2_old (Ne.symm n03)]; exact u31))
    have H8_1 : ∀ g : Grown W3, g.w.frozen? ⟨b3x3, 1, none⟩ = false := fun g => (g.frozen Y8).trans (by rw [← e3]; simp only [st2_frozen]; exact v31)
    clear Y8
    clear e3 hL3 hT2 hBh u00 u01 v00 v01 p0 q0 u10 u11 v10 v11 p1 q1 u20 u21 v20 v21 p2 q2 u30 u31 v30 v31 p3 q3 n01 n02 n12 n03 n13 n23
    obtain ⟨h3, hg3⟩ : ∃ g : Grown W3, W3 = g.w := ⟨⟨W3, Below.refl _ _⟩, rfl⟩
    rw [hg3]
    clear hg3 h2
    go_wp2_with (fail)
    go_loopw [12, 13, 14, 15, 16] (fun lo hi dn' tp i wr => (∃ g : Grown W3, wr = g.w) ∧ ((lo = .bool false ∧ hi = .bool false ∧ dn' = .bool false ∧ tp = .bool false ∧ i = .int .i64 0) ∨ (lo = .bool L2 ∧ hi = .bool H2 ∧ dn' = .bool D2 ∧ tp = .bool T2 ∧ i = .int .i64 1) ∨ (lo = .bool L4 ∧ hi = .bool H4 ∧ dn' = .bool D4 ∧ tp = .bool T4 ∧ i = .int .i64 2))) (fun _ _ _ _ i _ => (2 - intOf i).toNat)
    case atStart => exact ⟨⟨h3, rfl⟩, .inl ⟨rfl, rfl, rfl, rfl, rfl⟩⟩
    case round =>
      obtain ⟨⟨gA, rfl⟩, (⟨rfl, rfl, rfl, rfl, rfl⟩ | ⟨rfl, rfl, rfl, rfl, rfl⟩ | ⟨rfl, rfl, rfl, rfl, rfl⟩)⟩ := hrel
      · go_wp2_with (fail)
        go_loopw [12, 13, 14, 15, 17] (fun lo hi dn' tp k wr => (∃ g : Grown W3, wr = g.w) ∧ ((lo = .bool false ∧ hi = .bool false ∧ dn' = .bool false ∧ tp = .bool false ∧ k = .int .i64 0) ∨ (lo = .bool L1 ∧ hi = .bool H1 ∧ dn' = .bool D1 ∧ tp = .bool T1 ∧ k = .int .i64 1) ∨ (lo = .bool L2 ∧ hi = .bool H2 ∧ dn' = .bool D2 ∧ tp = .bool T2 ∧ k = .int .i64 2))) (fun _ _ _ _ k _ => (2 - intOf k).toNat)
        case atStart => exact ⟨⟨gA, rfl⟩, .inl ⟨rfl, rfl, rfl, rfl, rfl⟩⟩
        case round =>
          obtain ⟨⟨gB, rfl⟩, (⟨rfl, rfl, rfl, rfl, rfl⟩ | ⟨rfl, rfl, rfl, rfl, rfl⟩ | ⟨rfl, rfl, rfl, rfl, rfl⟩)⟩ := hrel
          · cases hm : (c != 0) with
            | false =>
              as_aux_lemma =>
                have d1 := cbD1.out.2 hm
                have d2 := cbT1.out.2 hm
                go_wp2_with (fail)
                go_cut [12] from 65 to 80 (fun s w' => s = .bool L1 ∧ ∃ g : Grown W3, w' = g.w)
                case first =>
                  as_aux_lemma =>
                    have tt := cbL1.out.1 (by trivial)
                    refine region_quiet' gB (by kernel_rfl) (by kernel_rfl) ?_
                    repeat (go_big_quiet_step (first | (go_at_call 19; exact qs (hf0.out _))))
                    refine wpQuiet_nil ?_
                    rintro _ ⟨gx, rfl⟩
                    go_wp2_with (fail)
                    go_meet
                    exact ⟨rfl, gx, rfl⟩
                case rest =>
                  obtain ⟨rfl, gC, rfl⟩ := hcut
                  go_wp2_with (fail)
                  go_cut [13] from 81 to 96 (fun s w' => s = .bool H1 ∧ ∃ g : Grown W3, w' = g.w)
                  case first =>
                    as_aux_lemma =>
                      have tt := cbH1.out.1 (by trivial)
                      refine region_quiet' gC (by kernel_rfl) (by kernel_rfl) ?_
                      repeat (go_big_quiet_step (first | (go_at_call 20; exact qs (hg0.out _))))
                      refine wpQuiet_nil ?_
                      rintro _ ⟨gx, rfl⟩
                      go_wp2_with (fail)
                      go_meet
                      exact ⟨rfl, gx, rfl⟩
                  case rest =>
                    obtain ⟨rfl, gD, rfl⟩ := hcut
                    go_wp2_with (fail)
                    go_roundw
                    case rel => exact ⟨⟨gD, rfl⟩, .inr (.inl ⟨rfl, rfl, by rw [d1], by rw [d2], rfl⟩)⟩
                    case measure => simp [intOf]
            | true =>
              as_aux_lemma =>
                go_wp2_with (fail)
                go_cut [12] from 65 to 80 (fun s w' => s = .bool L1 ∧ ∃ g : Grown W3, w' = g.w)
                case first =>
                  as_aux_lemma =>
                    have tt := cbL1.out.1 (by trivial)
                    refine region_quiet' gB (by kernel_rfl) (by kernel_rfl) ?_
                    repeat (go_big_quiet_step (first | (go_at_call 19; exact qs (hf0.out _))))
                    refine wpQuiet_nil ?_
                    rintro _ ⟨gx, rfl⟩
                    go_wp2_with (fail)
                    go_meet
                    exact ⟨rfl, gx, rfl⟩
                case rest =>
                  obtain ⟨rfl, gC, rfl⟩ := hcut
                  go_wp2_with (fail)
                  go_cut [13] from 81 to 96 (fun s w' => s = .bool H1 ∧ ∃ g : Grown W3, w' = g.w)
                  case first =>
                    as_aux_lemma =>
                      have tt := cbH1.out.1 (by trivial)
                      refine region_quiet' gC (by kernel_rfl) (by kernel_rfl) ?_
                      repeat (go_big_quiet_step (first | (go_at_call 20; exact qs (hg0.out _))))
                      refine wpQuiet_nil ?_
                      rintro _ ⟨gx, rfl⟩
                      go_wp2_with (fail)
                      go_meet
                      exact ⟨rfl, gx, rfl⟩
                  case rest =>
                    obtain ⟨rfl, gD, rfl⟩ := hcut
                    go_wp2_with (fail)
                    go_cut [14] from 102 to 117 (fun s w' => s = .bool D1 ∧ ∃ g : Grown W3, w' = g.w)
                    case first =>
                      as_aux_lemma =>
                        have tt := (cbD1.out.1 hm).1 (by trivial)
                        refine region_quiet' gD (by kernel_rfl) (by kernel_rfl) ?_
                        repeat (go_big_quiet_step (first | (go_at_call 19; exact qs ((hk0.out hm) _))))
                        refine wpQuiet_nil ?_
                        rintro _ ⟨gx, rfl⟩
                        go_wp2_with (fail)
                        go_meet
                        exact ⟨rfl, gx, rfl⟩
                    case rest =>
                      obtain ⟨rfl, gE, rfl⟩ := hcut
                      go_wp2_with (fail)
                      have tt := (cbT1.out.1 hm).1 (by trivial)
                      refine region_quiet' gE (by kernel_rfl) (by kernel_rfl) ?_
                      repeat (go_big_quiet_step (first | (go_at_call 20; exact qs ((hj0.out hm) _))))
                      refine wpQuiet_nil ?_
                      rintro _ ⟨gx, rfl⟩
                      go_wp2_with (fail)
                      go_roundw
                      case rel => exact ⟨⟨gx, rfl⟩, .inr (.inl ⟨rfl, rfl, rfl, (by first | rfl | rw [tt]), rfl⟩)⟩
                      case measure => simp [intOf]
          · cases hm : (d != 0) with
            | false =>
              as_aux_lemma =>
                have d1 := cbD2.out.2 hm
                have d2 := cbT2.out.2 hm
                go_wp2_with (fail)
                go_cut [12] from 65 to 80 (fun s w' => s = .bool L2 ∧ ∃ g : Grown W3, w' = g.w)
                case first =>
                  as_aux_lemma =>
                    cases L1 with
                    | false =>
                      have tt := cbL2.out.1 (by trivial)
                      refine region_quiet' gB (by kernel_rfl) (by kernel_rfl) ?_
                      repeat (go_big_quiet_step (first | (go_at_call 19; exact qs (hf1.out _))))
                      refine wpQuiet_nil ?_
                      rintro _ ⟨gx, rfl⟩
                      go_wp2_with (fail)
                      go_meet
                      exact ⟨rfl, gx, rfl⟩
                    | true =>
                      have tt := cbL2.out.2 (by trivial)
                      refine region_quiet' gB (by kernel_rfl) (by kernel_rfl) ?_
                      repeat (go_big_quiet_step (first | (go_at_call 19; exact qs (hf1.out _))))
                      refine wpQuiet_nil ?_
                      rintro _ ⟨gx, rfl⟩
                      go_wp2_with (fail)
                      go_meet
                      exact ⟨by rw [tt], gx, rfl⟩
                case rest =>
                  obtain ⟨rfl, gC, rfl⟩ := hcut
                  go_wp2_with (fail)
                  go_cut [13] from 81 to 96 (fun s w' => s = .bool H2 ∧ ∃ g : Grown W3, w' = g.w)
                  case first =>
                    as_aux_lemma =>
                      cases H1 with
                      | false =>
                        have tt := cbH2.out.1 (by trivial)
                        refine region_quiet' gC (by kernel_rfl) (by kernel_rfl) ?_
                        repeat (go_big_quiet_step (first | (go_at_call 20; exact qs (hg1.out _))))
                        refine wpQuiet_nil ?_
                        rintro _ ⟨gx, rfl⟩
                        go_wp2_with (fail)
                        go_meet
                        exact ⟨rfl, gx, rfl⟩
                      | true =>
                        have tt := cbH2.out.2 (by trivial)
                        refine region_quiet' gC (by kernel_rfl) (by kernel_rfl) ?_
                        repeat (go_big_quiet_step (first | (go_at_call 20; exact qs (hg1.out _))))
                        refine wpQuiet_nil ?_
                        rintro _ ⟨gx, rfl⟩
                        go_wp2_with (fail)
                        go_meet
                        exact ⟨by rw [tt], gx, rfl⟩
                  case rest =>
                    obtain ⟨rfl, gD, rfl⟩ := hcut
                    go_wp2_with (fail)
                    go_roundw
                    case rel => exact ⟨⟨gD, rfl⟩, .inr (.inr ⟨rfl, rfl, by rw [d1], by rw [d2], rfl⟩)⟩
                    case measure => simp [intOf]
            | true =>
              as_aux_lemma =>
                go_wp2_with (fail)
                go_cut [12] from 65 to 80 (fun s w' => s = .bool L2 ∧ ∃ g : Grown W3, w' = g.w)
                case first =>
                  as_aux_lemma =>
                    cases L1 with
                    | false =>
                      have tt := cbL2.out.1 (by trivial)
                      refine region_quiet' gB (by kernel_rfl) (by kernel_rfl) ?_
                      repeat (go_big_quiet_step (first | (go_at_call 19; exact qs (hf1.out _))))
                      refine wpQuiet_nil ?_
                      rintro _ ⟨gx, rfl⟩
                      go_wp2_with (fail)
                      go_meet
                      exact ⟨rfl, gx, rfl⟩
                    | true =>
                      have tt := cbL2.out.2 (by trivial)
                      refine region_quiet' gB (by kernel_rfl) (by kernel_rfl) ?_
                      repeat (go_big_quiet_step (first | (go_at_call 19; exact qs (hf1.out _))))
                      refine wpQuiet_nil ?_
                      rintro _ ⟨gx, rfl⟩
                      go_wp2_with (fail)
                      go_meet
                      exact ⟨by rw [tt], gx, rfl⟩
                case rest =>
                  obtain ⟨rfl, gC, rfl⟩ := hcut
                  go_wp2_with (fail)
                  go_cut [13] from 81 to 96 (fun s w' => s = .bool H2 ∧ ∃ g : Grown W3, w' = g.w)
                  case first =>
                    as_aux_lemma =>
                      cases H1 with
                      | false =>
                        have tt := cbH2.out.1 (by trivial)
                        refine region_quiet' gC (by kernel_rfl) (by kernel_rfl) ?_
                        repeat (go_big_quiet_step (first | (go_at_call 20; exact qs (hg1.out _))))
                        refine wpQuiet_nil ?_
                        rintro _ ⟨gx, rfl⟩
                        go_wp2_with (fail)
                        go_meet
                        exact ⟨rfl, gx, rfl⟩
                      | true =>
                        have tt := cbH2.out.2 (by trivial)
                        refine region_quiet' gC (by kernel_rfl) (by kernel_rfl) ?_
                        repeat (go_big_quiet_step (first | (go_at_call 20; exact qs (hg1.out _))))
                        refine wpQuiet_nil ?_
                        rintro _ ⟨gx, rfl⟩
                        go_wp2_with (fail)
                        go_meet
                        exact ⟨by rw [tt], gx, rfl⟩
                  case rest =>
                    obtain ⟨rfl, gD, rfl⟩ := hcut
                    go_wp2_with (fail)
                    go_cut [14] from 102 to 117 (fun s w' => s = .bool D2 ∧ ∃ g : Grown W3, w' = g.w)
                    case first =>
                      as_aux_lemma =>
                        cases D1 with
                        | false =>
                          have tt := (cbD2.out.1 hm).1 (by trivial)
                          refine region_quiet' gD (by kernel_rfl) (by kernel_rfl) ?_
                          repeat (go_big_quiet_step (first | (go_at_call 19; exact qs ((hk1.out hm) _))))
                          refine wpQuiet_nil ?_
                          rintro _ ⟨gx, rfl⟩
                          go_wp2_with (fail)
                          go_meet
                          exact ⟨rfl, gx, rfl⟩
                        | true =>
                          have tt := (cbD2.out.1 hm).2 (by trivial)
                          refine region_quiet' gD (by kernel_rfl) (by kernel_rfl) ?_
                          repeat (go_big_quiet_step (first | (go_at_call 19; exact qs ((hk1.out hm) _))))
                          refine wpQuiet_nil ?_
                          rintro _ ⟨gx, rfl⟩
                          go_wp2_with (fail)
                          go_meet
                          exact ⟨by rw [tt], gx, rfl⟩
                    case rest =>
                      obtain ⟨rfl, gE, rfl⟩ := hcut
                      go_wp2_with (fail)
                      cases T1 with
                      | false =>
                        have tt := (cbT2.out.1 hm).1 (by trivial)
                        refine region_quiet' gE (by kernel_rfl) (by kernel_rfl) ?_
                        repeat (go_big_quiet_step (first | (go_at_call 20; exact qs ((hj1.out hm) _))))
                        refine wpQuiet_nil ?_
                        rintro _ ⟨gx, rfl⟩
                        go_wp2_with (fail)
                        go_roundw
                        case rel => exact ⟨⟨gx, rfl⟩, .inr (.inr ⟨rfl, rfl, rfl, (by first | rfl | rw [tt]), rfl⟩)⟩
                        case measure => simp [intOf]
                      | true =>
                        have tt := (cbT2.out.1 hm).2 (by trivial)
                        refine region_quiet' gE (by kernel_rfl) (by kernel_rfl) ?_
                        repeat (go_big_quiet_step (first | (go_at_call 20; exact qs ((hj1.out hm) _))))
                        refine wpQuiet_nil ?_
                        rintro _ ⟨gx, rfl⟩
                        go_wp2_with (fail)
                        go_roundw
                        case rel => exact ⟨⟨gx, rfl⟩, .inr (.inr ⟨rfl, rfl, rfl, (by first | rfl | rw [tt]), rfl⟩)⟩
                        case measure => simp [intOf]
          · go_wp2_with (fail)
            go_roundw
            case rel => exact ⟨⟨gB, rfl⟩, .inr (.inl ⟨rfl, rfl, rfl, rfl, rfl⟩)⟩
            case measure => simp [intOf]
      · go_wp2_with (fail)
        go_loopw [12, 13, 14, 15, 17] (fun lo hi dn' tp k wr => (∃ g : Grown W3, wr = g.w) ∧ ((lo = .bool L2 ∧ hi = .bool H2 ∧ dn' = .bool D2 ∧ tp = .bool T2 ∧ k = .int .i64 0) ∨ (lo = .bool L3 ∧ hi = .bool H3 ∧ dn' = .bool D3 ∧ tp = .bool T3 ∧ k = .int .i64 1) ∨ (lo = .bool L4 ∧ hi = .bool H4 ∧ dn' = .bool D4 ∧ tp = .bool T4 ∧ k = .int .i64 2))) (fun _ _ _ _ k _ => (2 - intOf k).toNat)
        case atStart => exact ⟨⟨gA, rfl⟩, .inl ⟨rfl, rfl, rfl, rfl, rfl⟩⟩
        case round =>
          obtain ⟨⟨gB, rfl⟩, (⟨rfl, rfl, rfl, rfl, rfl⟩ | ⟨rfl, rfl, rfl, rfl, rfl⟩ | ⟨rfl, rfl, rfl, rfl, rfl⟩)⟩ := hrel
          · cases hm : (c != 0) with
            | false =>
              as_aux_lemma =>
                have d1 := cbD3.out.2 hm
                have d2 := cbT3.out.2 hm
                go_wp2_with (fail)
                go_cut [12] from 65 to 80 (fun s w' => s = .bool L3 ∧ ∃ g : Grown W3, w' = g.w)
                case first =>
                  as_aux_lemma =>
                    cases L2 with
                    | false =>
                      have tt := cbL3.out.1 (by trivial)
                      refine region_quiet' gB (by kernel_rfl) (by kernel_rfl) ?_
                      repeat (go_big_quiet_step (first | (go_at_call 19; exact qs (hf2.out _))))
                      refine wpQuiet_nil ?_
                      rintro _ ⟨gx, rfl⟩
                      go_wp2_with (fail)
                      go_meet
                      exact ⟨rfl, gx, rfl⟩
                    | true =>
                      have tt := cbL3.out.2 (by trivial)
                      refine region_quiet' gB (by kernel_rfl) (by kernel_rfl) ?_
                      repeat (go_big_quiet_step (first | (go_at_call 19; exact qs (hf2.out _))))
                      refine wpQuiet_nil ?_
                      rintro _ ⟨gx, rfl⟩
                      go_wp2_with (fail)
                      go_meet
                      exact ⟨by rw [tt], gx, rfl⟩
                case rest =>
                  obtain ⟨rfl, gC, rfl⟩ := hcut
                  go_wp2_with (fail)
                  go_cut [13] from 81 to 96 (fun s w' => s = .bool H3 ∧ ∃ g : Grown W3, w' = g.w)
                  case first =>
                    as_aux_lemma =>
                      cases H2 with
                      | false =>
                        have tt := cbH3.out.1 (by trivial)
                        refine region_quiet' gC (by kernel_rfl) (by kernel_rfl) ?_
                        repeat (go_big_quiet_step (first | (go_at_call 20; exact qs (hg2.out _))))
                        refine wpQuiet_nil ?_
                        rintro _ ⟨gx, rfl⟩
                        go_wp2_with (fail)
                        go_meet
                        exact ⟨rfl, gx, rfl⟩
                      | true =>
                        have tt := cbH3.out.2 (by trivial)
                        refine region_quiet' gC (by kernel_rfl) (by kernel_rfl) ?_
                        repeat (go_big_quiet_step (first | (go_at_call 20; exact qs (hg2.out _))))
                        refine wpQuiet_nil ?_
                        rintro _ ⟨gx, rfl⟩
                        go_wp2_with (fail)
                        go_meet
                        exact ⟨by rw [tt], gx, rfl⟩
                  case rest =>
                    obtain ⟨rfl, gD, rfl⟩ := hcut
                    go_wp2_with (fail)
                    go_roundw
                    case rel => exact ⟨⟨gD, rfl⟩, .inr (.inl ⟨rfl, rfl, by rw [d1], by rw [d2], rfl⟩)⟩
                    case measure => simp [intOf]
            | true =>
              as_aux_lemma =>
                go_wp2_with (fail)
                go_cut [12] from 65 to 80 (fun s w' => s = .bool L3 ∧ ∃ g : Grown W3, w' = g.w)
                case first =>
                  as_aux_lemma =>
                    cases L2 with
                    | false =>
                      have tt := cbL3.out.1 (by trivial)
                      refine region_quiet' gB (by kernel_rfl) (by kernel_rfl) ?_
                      repeat (go_big_quiet_step (first | (go_at_call 19; exact qs (hf2.out _))))
                      refine wpQuiet_nil ?_
                      rintro _ ⟨gx, rfl⟩
                      go_wp2_with (fail)
                      go_meet
                      exact ⟨rfl, gx, rfl⟩
                    | true =>
                      have tt := cbL3.out.2 (by trivial)
                      refine region_quiet' gB (by kernel_rfl) (by kernel_rfl) ?_
                      repeat (go_big_quiet_step (first | (go_at_call 19; exact qs (hf2.out _))))
                      refine wpQuiet_nil ?_
                      rintro _ ⟨gx, rfl⟩
                      go_wp2_with (fail)
                      go_meet
                      exact ⟨by rw [tt], gx, rfl⟩
                case rest =>
                  obtain ⟨rfl, gC, rfl⟩ := hcut
                  go_wp2_with (fail)
                  go_cut [13] from 81 to 96 (fun s w' => s = .bool H3 ∧ ∃ g : Grown W3, w' = g.w)
                  case first =>
                    as_aux_lemma =>
                      cases H2 with
                      | false =>
                        have tt := cbH3.out.1 (by trivial)
                        refine region_quiet' gC (by kernel_rfl) (by kernel_rfl) ?_
                        repeat (go_big_quiet_step (first | (go_at_call 20; exact qs (hg2.out _))))
                        refine wpQuiet_nil ?_
                        rintro _ ⟨gx, rfl⟩
                        go_wp2_with (fail)
                        go_meet
                        exact ⟨rfl, gx, rfl⟩
                      | true =>
                        have tt := cbH3.out.2 (by trivial)
                        refine region_quiet' gC (by kernel_rfl) (by kernel_rfl) ?_
                        repeat (go_big_quiet_step (first | (go_at_call 20; exact qs (hg2.out _))))
                        refine wpQuiet_nil ?_
                        rintro _ ⟨gx, rfl⟩
                        go_wp2_with (fail)
                        go_meet
                        exact ⟨by rw [tt], gx, rfl⟩
                  case rest =>
                    obtain ⟨rfl, gD, rfl⟩ := hcut
                    go_wp2_with (fail)
                    go_cut [14] from 102 to 117 (fun s w' => s = .bool D3 ∧ ∃ g : Grown W3, w' = g.w)
                    case first =>
                      as_aux_lemma =>
                        cases D2 with
                        | false =>
                          have tt := (cbD3.out.1 hm).1 (by trivial)
                          refine region_quiet' gD (by kernel_rfl) (by kernel_rfl) ?_
                          repeat (go_big_quiet_step (first | (go_at_call 19; exact qs ((hk2.out hm) _))))
                          refine wpQuiet_nil ?_
                          rintro _ ⟨gx, rfl⟩
                          go_wp2_with (fail)
                          go_meet
                          exact ⟨rfl, gx, rfl⟩
                        | true =>
                          have tt := (cbD3.out.1 hm).2 (by trivial)
                          refine region_quiet' gD (by kernel_rfl) (by kernel_rfl) ?_
                          repeat (go_big_quiet_step (first | (go_at_call 19; exact qs ((hk2.out hm) _))))
                          refine wpQuiet_nil ?_
                          rintro _ ⟨gx, rfl⟩
                          go_wp2_with (fail)
                          go_meet
                          exact ⟨by rw [tt], gx, rfl⟩
                    case rest =>
                      obtain ⟨rfl, gE, rfl⟩ := hcut
                      go_wp2_with (fail)
                      cases T2 with
                      | false =>
                        have tt := (cbT3.out.1 hm).1 (by trivial)
                        refine region_quiet' gE (by kernel_rfl) (by kernel_rfl) ?_
                        repeat (go_big_quiet_step (first | (go_at_call 20; exact qs ((hj2.out hm) _))))
                        refine wpQuiet_nil ?_
                        rintro _ ⟨gx, rfl⟩
                        go_wp2_with (fail)
                        go_roundw
                        case rel => exact ⟨⟨gx, rfl⟩, .inr (.inl ⟨rfl, rfl, rfl, (by first | rfl | rw [tt]), rfl⟩)⟩
                        case measure => simp [intOf]
                      | true =>
                        have tt := (cbT3.out.1 hm).2 (by trivial)
                        refine region_quiet' gE (by kernel_rfl) (by kernel_rfl) ?_
                        repeat (go_big_quiet_step (first | (go_at_call 20; exact qs ((hj2.out hm) _))))
                        refine wpQuiet_nil ?_
                        rintro _ ⟨gx, rfl⟩
                        go_wp2_with (fail)
                        go_roundw
                        case rel => exact ⟨⟨gx, rfl⟩, .inr (.inl ⟨rfl, rfl, rfl, (by first | rfl | rw [tt]), rfl⟩)⟩
                        case measure => simp [intOf]
          · cases hm : (d != 0) with
            | false =>
              as_aux_lemma =>
                have d1 := cbD4.out.2 hm
                have d2 := cbT4.out.2 hm
                go_wp2_with (fail)
                go_cut [12] from 65 to 80 (fun s w' => s = .bool L4 ∧ ∃ g : Grown W3, w' = g.w)
                case first =>
                  as_aux_lemma =>
                    cases L3 with
                    | false =>
                      have tt := cbL4.out.1 (by trivial)
                      refine region_quiet' gB (by kernel_rfl) (by kernel_rfl) ?_
                      repeat (go_big_quiet_step (first | (go_at_call 19; exact qs (hf3.out _))))
                      refine wpQuiet_nil ?_
                      rintro _ ⟨gx, rfl⟩
                      go_wp2_with (fail)
                      go_meet
                      exact ⟨rfl, gx, rfl⟩
                    | true =>
                      have tt := cbL4.out.2 (by trivial)
                      refine region_quiet' gB (by kernel_rfl) (by kernel_rfl) ?_
                      repeat (go_big_quiet_step (first | (go_at_call 19; exact qs (hf3.out _))))
                      refine wpQuiet_nil ?_
                      rintro _ ⟨gx, rfl⟩
                      go_wp2_with (fail)
                      go_meet
                      exact ⟨by rw [tt], gx, rfl⟩
                case rest =>
                  obtain ⟨rfl, gC, rfl⟩ := hcut
                  go_wp2_with (fail)
                  go_cut [13] from 81 to 96 (fun s w' => s = .bool H4 ∧ ∃ g : Grown W3, w' = g.w)
                  case first =>
                    as_aux_lemma =>
                      cases H3 with
                      | false =>
                        have tt := cbH4.out.1 (by trivial)
                        refine region_quiet' gC (by kernel_rfl) (by kernel_rfl) ?_
                        repeat (go_big_quiet_step (first | (go_at_call 20; exact qs (hg3.out _))))
                        refine wpQuiet_nil ?_
                        rintro _ ⟨gx, rfl⟩
                        go_wp2_with (fail)
                        go_meet
                        exact ⟨rfl, gx, rfl⟩
                      | true =>
                        have tt := cbH4.out.2 (by trivial)
                        refine region_quiet' gC (by kernel_rfl) (by kernel_rfl) ?_
                        repeat (go_big_quiet_step (first | (go_at_call 20; exact qs (hg3.out _))))
                        refine wpQuiet_nil ?_
                        rintro _ ⟨gx, rfl⟩
                        go_wp2_with (fail)
                        go_meet
                        exact ⟨by rw [tt], gx, rfl⟩
                  case rest =>
                    obtain ⟨rfl, gD, rfl⟩ := hcut
                    go_wp2_with (fail)
                    go_roundw
                    case rel => exact ⟨⟨gD, rfl⟩, .inr (.inr ⟨rfl, rfl, by rw [d1], by rw [d2], rfl⟩)⟩
                    case measure => simp [intOf]
            | true =>
              as_aux_lemma =>
                go_wp2_with (fail)
                go_cut [12] from 65 to 80 (fun s w' => s = .bool L4 ∧ ∃ g : Grown W3, w' = g.w)
                case first =>
                  as_aux_lemma =>
                    cases L3 with
                    | false =>
                      have tt := cbL4.out.1 (by trivial)
                      refine region_quiet' gB (by kernel_rfl) (by kernel_rfl) ?_
                      repeat (go_big_quiet_step (first | (go_at_call 19; exact qs (hf3.out _))))
                      refine wpQuiet_nil ?_
                      rintro _ ⟨gx, rfl⟩
                      go_wp2_with (fail)
                      go_meet
                      exact ⟨rfl, gx, rfl⟩
                    | true =>
                      have tt := cbL4.out.2 (by trivial)
                      refine region_quiet' gB (by kernel_rfl) (by kernel_rfl) ?_
                      repeat (go_big_quiet_step (first | (go_at_call 19; exact qs (hf3.out _))))
                      refine wpQuiet_nil ?_
                      rintro _ ⟨gx, rfl⟩
                      go_wp2_with (fail)
                      go_meet
                      exact ⟨by rw [tt], gx, rfl⟩
                case rest =>
                  obtain ⟨rfl, gC, rfl⟩ := hcut
                  go_wp2_with (fail)
                  go_cut [13] from 81 to 96 (fun s w' => s = .bool H4 ∧ ∃ g : Grown W3, w' = g.w)
                  case first =>
                    as_aux_lemma =>
                      cases H3 with
                      | false =>
                        have tt := cbH4.out.1 (by trivial)
                        refine region_quiet' gC (by kernel_rfl) (by kernel_rfl) ?_
                        repeat (go_big_quiet_step (first | (go_at_call 20; exact qs (hg3.out _))))
                        refine wpQuiet_nil ?_
                        rintro _ ⟨gx, rfl⟩
                        go_wp2_with (fail)
                        go_meet
                        exact ⟨rfl, gx, rfl⟩
                      | true =>
                        have tt := cbH4.out.2 (by trivial)
                        refine region_quiet' gC (by kernel_rfl) (by kernel_rfl) ?_
                        repeat (go_big_quiet_step (first | (go_at_call 20; exact qs (hg3.out _))))
                        refine wpQuiet_nil ?_
                        rintro _ ⟨gx, rfl⟩
                        go_wp2_with (fail)
                        go_meet
                        exact ⟨by rw [tt], gx, rfl⟩
                  case rest =>
                    obtain ⟨rfl, gD, rfl⟩ := hcut
                    go_wp2_with (fail)
                    go_cut [14] from 102 to 117 (fun s w' => s = .bool D4 ∧ ∃ g : Grown W3, w' = g.w)
                    case first =>
                      as_aux_lemma =>
                        cases D3 with
                        | false =>
                          have tt := (cbD4.out.1 hm).1 (by trivial)
                          refine region_quiet' gD (by kernel_rfl) (by kernel_rfl) ?_
                          repeat (go_big_quiet_step (first | (go_at_call 19; exact qs ((hk3.out hm) _))))
                          refine wpQuiet_nil ?_
                          rintro _ ⟨gx, rfl⟩
                          go_wp2_with (fail)
                          go_meet
                          exact ⟨rfl, gx, rfl⟩
                        | true =>
                          have tt := (cbD4.out.1 hm).2 (by trivial)
                          refine region_quiet' gD (by kernel_rfl) (by kernel_rfl) ?_
                          repeat (go_big_quiet_step (first | (go_at_call 19; exact qs ((hk3.out hm) _))))
                          refine wpQuiet_nil ?_
                          rintro _ ⟨gx, rfl⟩
                          go_wp2_with (fail)
                          go_meet
                          exact ⟨by rw [tt], gx, rfl⟩
                    case rest =>
                      obtain ⟨rfl, gE, rfl⟩ := hcut
                      go_wp2_with (fail)
                      cases T3 with
                      | false =>
                        have tt := (cbT4.out.1 hm).1 (by trivial)
                        refine region_quiet' gE (by kernel_rfl) (by kernel_rfl) ?_
                        repeat (go_big_quiet_step (first | (go_at_call 20; exact qs ((hj3.out hm) _))))
                        refine wpQuiet_nil ?_
                        rintro _ ⟨gx, rfl⟩
                        go_wp2_with (fail)
                        go_roundw
                        case rel => exact ⟨⟨gx, rfl⟩, .inr (.inr ⟨rfl, rfl, rfl, (by first | rfl | rw [tt]), rfl⟩)⟩
                        case measure => simp [intOf]
                      | true =>
                        have tt := (cbT4.out.1 hm).2 (by trivial)
                        refine region_quiet' gE (by kernel_rfl) (by kernel_rfl) ?_
                        repeat (go_big_quiet_step (first | (go_at_call 20; exact qs ((hj3.out hm) _))))
                        refine wpQuiet_nil ?_
                        rintro _ ⟨gx, rfl⟩
                        go_wp2_with (fail)
                        go_roundw
                        case rel => exact ⟨⟨gx, rfl⟩, .inr (.inr ⟨rfl, rfl, rfl, (by first | rfl | rw [tt]), rfl⟩)⟩
                        case measure => simp [intOf]
          · go_wp2_with (fail)
            go_roundw
            case rel => exact ⟨⟨gB, rfl⟩, .inr (.inr ⟨rfl, rfl, rfl, rfl, rfl⟩)⟩
            case measure => simp [intOf]
      · as_aux_lemma =>
          go_upto_region 19 with (fail)
          go_cut [182] from 134 to 181 (fun s w' => s = .bool false ∧ ∃ g : Grown W3, w' = g.w)
          case first =>
            as_aux_lemma =>
              cases ep with
              | false =>
                have y := cbP.out (by trivial)
                obtain ⟨rfl, rfl⟩ := y
                cases eq with
                | false =>
                  have y := cbQ.out (by trivial)
                  obtain ⟨rfl, rfl⟩ := y
                  cases eu with
                  | false =>
                    have y1 := (cbU.out (by trivial)).1
                    have y2 := (cbU.out (by trivial)).2
                    refine wp_region_lit ?_
                    refine list_quiet gA ?_
                    repeat (go_big_quiet_step (first | exact qc (hep.out _) | exact qc (heq.out _) | exact qc (heu.out _)))
                    refine wpQuiet_nil ?_
                    rintro _ ⟨gx, rfl⟩
                    go_wp2_with (fail)
                    go_meet
                    exact ⟨rfl, gx, rfl⟩
                  | true =>
                    refine wp_region_lit ?_
                    refine list_quiet gA ?_
                    repeat (go_big_quiet_step (first | exact qc (hep.out _) | exact qc (heq.out _) | exact qc (heu.out _)))
                    refine wpQuiet_nil ?_
                    rintro _ ⟨gx, rfl⟩
                    go_wp2_with (fail)
                    go_meet
                    exact ⟨rfl, gx, rfl⟩
                | true =>
                  cases eu with
                  | false =>
                    have y1 := (cbU.out (by trivial)).1
                    have y2 := (cbU.out (by trivial)).2
                    refine wp_region_lit ?_
                    refine list_quiet gA ?_
                    repeat (go_big_quiet_step (first | exact qc (hep.out _) | exact qc (heq.out _) | exact qc (heu.out _)))
                    refine wpQuiet_nil ?_
                    rintro _ ⟨gx, rfl⟩
                    go_wp2_with (fail)
                    go_meet
                    exact ⟨rfl, gx, rfl⟩
                  | true =>
                    refine wp_region_lit ?_
                    refine list_quiet gA ?_
                    repeat (go_big_quiet_step (first | exact qc (hep.out _) | exact qc (heq.out _) | exact qc (heu.out _)))
                    refine wpQuiet_nil ?_
                    rintro _ ⟨gx, rfl⟩
                    go_wp2_with (fail)
                    go_meet
                    exact ⟨rfl, gx, rfl⟩
              | true =>
                cases eq with
                | false =>
                  have y := cbQ.out (by trivial)
                  obtain ⟨rfl, rfl⟩ := y
                  cases eu with
                  | false =>
                    have y1 := (cbU.out (by trivial)).1
                    have y2 := (cbU.out (by trivial)).2
                    refine wp_region_lit ?_
                    refine list_quiet gA ?_
                    repeat (go_big_quiet_step (first | exact qc (hep.out _) | exact qc (heq.out _) | exact qc (heu.out _)))
                    refine wpQuiet_nil ?_
                    rintro _ ⟨gx, rfl⟩
                    go_wp2_with (fail)
                    go_meet
                    exact ⟨rfl, gx, rfl⟩
                  | true =>
                    refine wp_region_lit ?_
                    refine list_quiet gA ?_
                    repeat (go_big_quiet_step (first | exact qc (hep.out _) | exact qc (heq.out _) | exact qc (heu.out _)))
                    refine wpQuiet_nil ?_
                    rintro _ ⟨gx, rfl⟩
                    go_wp2_with (fail)
                    go_meet
                    exact ⟨rfl, gx, rfl⟩
                | true =>
                  cases eu with
                  | false =>
                    have y1 := (cbU.out (by trivial)).1
                    have y2 := (cbU.out (by trivial)).2
                    refine wp_region_lit ?_
                    refine list_quiet gA ?_
                    repeat (go_big_quiet_step (first | exact qc (hep.out _) | exact qc (heq.out _) | exact qc (heu.out _)))
                    refine wpQuiet_nil ?_
                    rintro _ ⟨gx, rfl⟩
                    go_wp2_with (fail)
                    go_meet
                    exact ⟨rfl, gx, rfl⟩
                  | true =>
                    refine wp_region_lit ?_
                    refine list_quiet gA ?_
                    repeat (go_big_quiet_step (first | exact qc (hep.out _) | exact qc (heq.out _) | exact qc (heu.out _)))
                    refine wpQuiet_nil ?_
                    rintro _ ⟨gx, rfl⟩
                    go_wp2_with (fail)
                    go_meet
                    exact ⟨rfl, gx, rfl⟩
          case rest =>
            obtain ⟨rfl, g19, rfl⟩ := hcut
            go_wp2_with (fail)
            as_aux_lemma =>
              go_cut [18] from 183 to 217 (fun s w' => s = .bool ne ∧ ∃ g : Grown W3, w' = g.w)
              case first =>
                as_aux_lemma =>
                  cases nA : decide (a ≤ 0) with
                  | true =>
                    cases nA2 : decide (0 ≤ b) with
                    | true =>
                      cases nZ : (ss1 == 0) with
                      | true =>
                        refine region_quiet' g19 (by kernel_rfl) (by kernel_rfl) ?_
                        repeat (go_big_quiet_step (first | exact qs (hv1.out _) | exact qs (hv2.out _)))
                        refine wpQuiet_nil ?_
                        rintro _ ⟨gx, rfl⟩
                        go_wp2_with (fail)
                        go_meet
                        exact ⟨by rw [cbN.out]; simp [nA, nA2, nZ], gx, rfl⟩
                      | false =>
                        cases nB : (vv1 == ss1) with
                        | true =>
                          refine region_quiet' g19 (by kernel_rfl) (by kernel_rfl) ?_
                          repeat (go_big_quiet_step (first | exact qs (hv1.out _) | exact qs (hv2.out _)))
                          refine wpQuiet_nil ?_
                          rintro _ ⟨gx, rfl⟩
                          go_wp2_with (fail)
                          go_meet
                          exact ⟨by rw [cbN.out]; simp [nA, nA2, nZ, nB], gx, rfl⟩
                        | false =>
                          cases nC : (vv2 == ss1) with
                          | true =>
                            refine region_quiet' g19 (by kernel_rfl) (by kernel_rfl) ?_
                            repeat (go_big_quiet_step (first | exact qs (hv1.out _) | exact qs (hv2.out _)))
                            refine wpQuiet_nil ?_
                            rintro _ ⟨gx, rfl⟩
                            go_wp2_with (fail)
                            go_meet
                            exact ⟨by rw [cbN.out]; simp [nA, nA2, nZ, nB, nC], gx, rfl⟩
                          | false =>
                            refine region_quiet' g19 (by kernel_rfl) (by kernel_rfl) ?_
                            repeat (go_big_quiet_step (first | exact qs (hv1.out _) | exact qs (hv2.out _)))
                            refine wpQuiet_nil ?_
                            rintro _ ⟨gx, rfl⟩
                            go_wp2_with (fail)
                            go_meet
                            exact ⟨by rw [cbN.out]; simp [nA, nA2, nZ, nB, nC], gx, rfl⟩
                    | false =>
                      cases nB : (vv1 == ss1) with
                      | true =>
                        refine region_quiet' g19 (by kernel_rfl) (by kernel_rfl) ?_
                        repeat (go_big_quiet_step (first | exact qs (hv1.out _) | exact qs (hv2.out _)))
                        refine wpQuiet_nil ?_
                        rintro _ ⟨gx, rfl⟩
                        go_wp2_with (fail)
                        go_meet
                        exact ⟨by rw [cbN.out]; simp [nA, nA2, nB], gx, rfl⟩
                      | false =>
                        cases nC : (vv2 == ss1) with
                        | true =>
                          refine region_quiet' g19 (by kernel_rfl) (by kernel_rfl) ?_
                          repeat (go_big_quiet_step (first | exact qs (hv1.out _) | exact qs (hv2.out _)))
                          refine wpQuiet_nil ?_
                          rintro _ ⟨gx, rfl⟩
                          go_wp2_with (fail)
                          go_meet
                          exact ⟨by rw [cbN.out]; simp [nA, nA2, nB, nC], gx, rfl⟩
                        | false =>
                          refine region_quiet' g19 (by kernel_rfl) (by kernel_rfl) ?_
                          repeat (go_big_quiet_step (first | exact qs (hv1.out _) | exact qs (hv2.out _)))
                          refine wpQuiet_nil ?_
                          rintro _ ⟨gx, rfl⟩
                          go_wp2_with (fail)
                          go_meet
                          exact ⟨by rw [cbN.out]; simp [nA, nA2, nB, nC], gx, rfl⟩
                  | false =>
                    cases nB : (vv1 == ss1) with
                    | true =>
                      refine region_quiet' g19 (by kernel_rfl) (by kernel_rfl) ?_
                      repeat (go_big_quiet_step (first | exact qs (hv1.out _) | exact qs (hv2.out _)))
                      refine wpQuiet_nil ?_
                      rintro _ ⟨gx, rfl⟩
                      go_wp2_with (fail)
                      go_meet
                      exact ⟨by rw [cbN.out]; simp [nA, nB], gx, rfl⟩
                    | false =>
                      cases nC : (vv2 == ss1) with
                      | true =>
                        refine region_quiet' g19 (by kernel_rfl) (by kernel_rfl) ?_
                        repeat (go_big_quiet_step (first | exact qs (hv1.out _) | exact qs (hv2.out _)))
                        refine wpQuiet_nil ?_
                        rintro _ ⟨gx, rfl⟩
                        go_wp2_with (fail)
                        go_meet
                        exact ⟨by rw [cbN.out]; simp [nA, nB, nC], gx, rfl⟩
                      | false =>
                        refine region_quiet' g19 (by kernel_rfl) (by kernel_rfl) ?_
                        repeat (go_big_quiet_step (first | exact qs (hv1.out _) | exact qs (hv2.out _)))
                        refine wpQuiet_nil ?_
                        rintro _ ⟨gx, rfl⟩
                        go_wp2_with (fail)
                        go_meet
                        exact ⟨by rw [cbN.out]; simp [nA, nB, nC], gx, rfl⟩
              case rest =>
                obtain ⟨rfl, g21, rfl⟩ := hcut
                go_wp2_with (fail)
                as_aux_lemma =>
                  go_cut [19] from 218 to 237 (fun s w' => s = .bool fa ∧ ∃ g : Grown W3, w' = g.w)
                  case first =>
                    as_aux_lemma =>
                      cases nB : (zz1 == ss2) with
                      | true =>
                        refine region_quiet' g21 (by kernel_rfl) (by kernel_rfl) ?_
                        repeat (go_big_quiet_step (first | exact qs (hz1.out _) | exact qs (hz2.out _)))
                        refine wpQuiet_nil ?_
                        rintro _ ⟨gx, rfl⟩
                        go_wp2_with (fail)
                        go_meet
                        exact ⟨by rw [cbF.out]; simp [nB], gx, rfl⟩
                      | false =>
                        cases nC : (zz2 == ss2) with
                        | true =>
                          refine region_quiet' g21 (by kernel_rfl) (by kernel_rfl) ?_
                          repeat (go_big_quiet_step (first | exact qs (hz1.out _) | exact qs (hz2.out _)))
                          refine wpQuiet_nil ?_
                          rintro _ ⟨gx, rfl⟩
                          go_wp2_with (fail)
                          go_meet
                          exact ⟨by rw [cbF.out]; simp [nB, nC], gx, rfl⟩
                        | false =>
                          refine region_quiet' g21 (by kernel_rfl) (by kernel_rfl) ?_
                          repeat (go_big_quiet_step (first | exact qs (hz1.out _) | exact qs (hz2.out _)))
                          refine wpQuiet_nil ?_
                          rintro _ ⟨gx, rfl⟩
                          go_wp2_with (fail)
                          go_meet
                          exact ⟨by rw [cbF.out]; simp [nB, nC], gx, rfl⟩
                  case rest =>
                    obtain ⟨rfl, g22, rfl⟩ := hcut
                    go_wp2_with (fail)
                    as_aux_lemma =>
                      cases is with
                      | false =>
                        have y := cbI.out (by trivial)
                        refine (hrt.out _).mono ?_
                        rintro e301 w301 ⟨rfl, hB301⟩
                        obtain ⟨g301, rfl⟩ := grow g22 hB301
                        clear hB301
                        go_wp2_with (fail)
                        go_ret
                        have hB : Below w.heap.size w g301.w := below_then hT3 g301.h
                        exact ⟨rfl, hB.alloc hB.size _⟩
                      | true =>
                        refine (hrt.out _).mono ?_
                        rintro e301 w301 ⟨rfl, hB301⟩
                        obtain ⟨g301, rfl⟩ := grow g22 hB301
                        clear hB301
                        go_wp2_with (fail)
                        generalize hW4 : World.alloc g301.w _ = W4
                        have hL4 : Below g301.w.heap.size g301.w W4 := by subst hW4; exact ((Below.refl _ _).alloc (by first | omega | (simp <;> omega)) _)
                        have hT4 : Below w.heap.size w W4 := below_then (below_then hT3 g301.h) hL4
                        obtain ⟨nb4, hnb4⟩ : ∃ nb, nb = g301.w.heap.size := ⟨_, rfl⟩
                        have s0 := S0 g301
                        have Y0 : w.heap.size < W4.heap.size := Nat.lt_of_lt_of_le s0 hL4.size
                        have c0_0 := F0_0 g301
                        have d0_0 := H0_0 g301
                        have c0_1 := F0_1 g301
                        have d0_1 := H0_1 g301
                        have c0_2 := F0_2 g301
                        have d0_2 := H0_2 g301
                        have c0_3 := F0_3 g301
                        have d0_3 := H0_3 g301
                        have c0_4 := F0_4 g301
                        have d0_4 := H0_4 g301
                        have c0_5 := F0_5 g301
                        have d0_5 := H0_5 g301
                        clear S0 F0_0 H0_0 F0_1 H0_1 F0_2 H0_2 F0_3 H0_3 F0_4 H0_4 F0_5 H0_5
                        have S0 : ∀ g : Grown W4, w.heap.size < g.w.heap.size := fun g => Nat.lt_of_lt_of_le Y0 g.h.size
                        have F0_0 : ∀ g : Grown W4, g.w.cell? ⟨w.heap.size, 0, none⟩ = some (.int .i64 x0) := fun g => (g.cell Y0).trans ((Below.cell hL4 (p := ⟨w.heap.size, 0, none⟩) s0).trans c0_0)
                        have H0_0 : ∀ g : Grown W4, g.w.frozen? ⟨w.heap.size, 0, none⟩ = false := fun g => (g.frozen Y0).trans ((Below.frozen hL4 (p := ⟨w.heap.size, 0, none⟩) s0).trans d0_0)
                        have F0_1 : ∀ g : Grown W4, g.w.cell? ⟨w.heap.size, 1, none⟩ = some (.int .i64 x1) := fun g => (g.cell Y0).trans ((Below.cell hL4 (p := ⟨w.heap.size, 1, none⟩) s0).trans c0_1)
                        have H0_1 : ∀ g : Grown W4, g.w.frozen? ⟨w.heap.size, 1, none⟩ = false := fun g => (g.frozen Y0).trans ((Below.frozen hL4 (p := ⟨w.heap.size, 1, none⟩) s0).trans d0_1)
                        have F0_2 : ∀ g : Grown W4, g.w.cell? ⟨w.heap.size, 2, none⟩ = some (.int .i64 x2) := fun g => (g.cell Y0).trans ((Below.cell hL4 (p := ⟨w.heap.size, 2, none⟩) s0).trans c0_2)
                        have H0_2 : ∀ g : Grown W4, g.w.frozen? ⟨w.heap.size, 2, none⟩ = false := fun g => (g.frozen Y0).trans ((Below.frozen hL4 (p := ⟨w.heap.size, 2, none⟩) s0).trans d0_2)
                        have F0_3 : ∀ g : Grown W4, g.w.cell? ⟨w.heap.size, 3, none⟩ = some (.int .i64 x3) := fun g => (g.cell Y0).trans ((Below.cell hL4 (p := ⟨w.heap.size, 3, none⟩) s0).trans c0_3)
                        have H0_3 : ∀ g : Grown W4, g.w.frozen? ⟨w.heap.size, 3, none⟩ = false := fun g => (g.frozen Y0).trans ((Below.frozen hL4 (p := ⟨w.heap.size, 3, none⟩) s0).trans d0_3)
                        have F0_4 : ∀ g : Grown W4, g.w.cell? ⟨w.heap.size, 4, none⟩ = some (.int .i32 x4) := fun g => (g.cell Y0).trans ((Below.cell hL4 (p := ⟨w.heap.size, 4, none⟩) s0).trans c0_4)
                        have H0_4 : ∀ g : Grown W4, g.w.frozen? ⟨w.heap.size, 4, none⟩ = false := fun g => (g.frozen Y0).trans ((Below.frozen hL4 (p := ⟨w.heap.size, 4, none⟩) s0).trans d0_4)
                        have F0_5 : ∀ g : Grown W4, g.w.cell? ⟨w.heap.size, 5, none⟩ = some (.int .u16 x5) := fun g => (g.cell Y0).trans ((Below.cell hL4 (p := ⟨w.heap.size, 5, none⟩) s0).trans c0_5)
                        have H0_5 : ∀ g : Grown W4, g.w.frozen? ⟨w.heap.size, 5, none⟩ = false := fun g => (g.frozen Y0).trans ((Below.frozen hL4 (p := ⟨w.heap.size, 5, none⟩) s0).trans d0_5)
                        clear Y0 s0 c0_0 d0_0 c0_1 d0_1 c0_2 d0_2 c0_3 d0_3 c0_4 d0_4 c0_5 d0_5
                        have s1 := S1 g301
                        have Y1 : b1x0 < W4.heap.size := Nat.lt_of_lt_of_le s1 hL4.size
                        have c1_0 := F1_0 g301
                        have d1_0 := H1_0 g301
                        have c1_1 := F1_1 g301
                        have d1_1 := H1_1 g301
                        clear S1 F1_0 H1_0 F1_1 H1_1
                        have S1 : ∀ g : Grown W4, b1x0 < g.w.heap.size := fun g => Nat.lt_of_lt_of_le Y1 g.h.size
                        have F1_0 : ∀ g : Grown W4, g.w.cell? ⟨b1x0, 0, none⟩ = some (.int .i64 a) := fun g => (g.cell Y1).trans ((Below.cell hL4 (p := ⟨b1x0, 0, none⟩) s1).trans c1_0)
                        have H1_0 : ∀ g : Grown W4, g.w.frozen? ⟨b1x0, 0, none⟩ = false := fun g => (g.frozen Y1).trans ((Below.frozen hL4 (p := ⟨b1x0, 0, none⟩) s1).trans d1_0)
                        have F1_1 : ∀ g : Grown W4, g.w.cell? ⟨b1x0, 1, none⟩ = some (.int .i64 b) := fun g => (g.cell Y1).trans ((Below.cell hL4 (p := ⟨b1x0, 1, none⟩) s1).trans c1_1)
                        have H1_1 : ∀ g : Grown W4, g.w.frozen? ⟨b1x0, 1, none⟩ = false := fun g => (g.frozen Y1).trans ((Below.frozen hL4 (p := ⟨b1x0, 1, none⟩) s1).trans d1_1)
                        clear Y1 s1 c1_0 d1_0 c1_1 d1_1
                        have s2 := S2 g301
                        have Y2 : b1x1 < W4.heap.size := Nat.lt_of_lt_of_le s2 hL4.size
                        have c2_0 := F2_0 g301
                        have d2_0 := H2_0 g301
                        have c2_1 := F2_1 g301
                        have d2_1 := H2_1 g301
                        clear S2 F2_0 H2_0 F2_1 H2_1
                        have S2 : ∀ g : Grown W4, b1x1 < g.w.heap.size := fun g => Nat.lt_of_lt_of_le Y2 g.h.size
                        have F2_0 : ∀ g : Grown W4, g.w.cell? ⟨b1x1, 0, none⟩ = some (.int .i64 c) := fun g => (g.cell Y2).trans ((Below.cell hL4 (p := ⟨b1x1, 0, none⟩) s2).trans c2_0)
                        have H2_0 : ∀ g : Grown W4, g.w.frozen? ⟨b1x1, 0, none⟩ = false := fun g => (g.frozen Y2).trans ((Below.frozen hL4 (p := ⟨b1x1, 0, none⟩) s2).trans d2_0)
                        have F2_1 : ∀ g : Grown W4, g.w.cell? ⟨b1x1, 1, none⟩ = some (.int .i64 d) := fun g => (g.cell Y2).trans ((Below.cell hL4 (p := ⟨b1x1, 1, none⟩) s2).trans c2_1)
                        have H2_1 : ∀ g : Grown W4, g.w.frozen? ⟨b1x1, 1, none⟩ = false := fun g => (g.frozen Y2).trans ((Below.frozen hL4 (p := ⟨b1x1, 1, none⟩) s2).trans d2_1)
                        clear Y2 s2 c2_0 d2_0 c2_1 d2_1
                        have s3 := S3 g301
                        have Y3 : X < W4.heap.size := Nat.lt_of_lt_of_le s3 hL4.size
                        have c3_0 := F3_0 g301
                        have d3_0 := H3_0 g301
                        have c3_1 := F3_1 g301
                        have d3_1 := H3_1 g301
                        clear S3 F3_0 H3_0 F3_1 H3_1
                        have S3 : ∀ g : Grown W4, X < g.w.heap.size := fun g => Nat.lt_of_lt_of_le Y3 g.h.size
                        have F3_0 : ∀ g : Grown W4, g.w.cell? ⟨X, 0, none⟩ = some (.int .i64 a) := fun g => (g.cell Y3).trans ((Below.cell hL4 (p := ⟨X, 0, none⟩) s3).trans c3_0)
                        have H3_0 : ∀ g : Grown W4, g.w.frozen? ⟨X, 0, none⟩ = false := fun g => (g.frozen Y3).trans ((Below.frozen hL4 (p := ⟨X, 0, none⟩) s3).trans d3_0)
                        have F3_1 : ∀ g : Grown W4, g.w.cell? ⟨X, 1, none⟩ = some (.int .i64 b) := fun g => (g.cell Y3).trans ((Below.cell hL4 (p := ⟨X, 1, none⟩) s3).trans c3_1)
                        have H3_1 : ∀ g : Grown W4, g.w.frozen? ⟨X, 1, none⟩ = false := fun g => (g.frozen Y3).trans ((Below.frozen hL4 (p := ⟨X, 1, none⟩) s3).trans d3_1)
                        clear Y3 s3 c3_0 d3_0 c3_1 d3_1
                        have s4 := S4 g301
                        have Y4 : Y < W4.heap.size := Nat.lt_of_lt_of_le s4 hL4.size
                        have c4_0 := F4_0 g301
                        have d4_0 := H4_0 g301
                        have c4_1 := F4_1 g301
                        have d4_1 := H4_1 g301
                        clear S4 F4_0 H4_0 F4_1 H4_1
                        have S4 : ∀ g : Grown W4, Y < g.w.heap.size := fun g => Nat.lt_of_lt_of_le Y4 g.h.size
                        have F4_0 : ∀ g : Grown W4, g.w.cell? ⟨Y, 0, none⟩ = some (.int .i64 c) := fun g => (g.cell Y4).trans ((Below.cell hL4 (p := ⟨Y, 0, none⟩) s4).trans c4_0)
                        have H4_0 : ∀ g : Grown W4, g.w.frozen? ⟨Y, 0, none⟩ = false := fun g => (g.frozen Y4).trans ((Below.frozen hL4 (p := ⟨Y, 0, none⟩) s4).trans d4_0)
                        have F4_1 : ∀ g : Grown W4, g.w.cell? ⟨Y, 1, none⟩ = some (.int .i64 d) := fun g => (g.cell Y4).trans ((Below.cell hL4 (p := ⟨Y, 1, none⟩) s4).trans c4_1)
                        have H4_1 : ∀ g : Grown W4, g.w.frozen? ⟨Y, 1, none⟩ = false := fun g => (g.frozen Y4).trans ((Below.frozen hL4 (p := ⟨Y, 1, none⟩) s4).trans d4_1)
                        clear Y4 s4 c4_0 d4_0 c4_1 d4_1
                        have s5 := S5 g301
                        have Y5 : b3x0 < W4.heap.size := Nat.lt_of_lt_of_le s5 hL4.size
                        have c5_0 := F5_0 g301
                        have d5_0 := H5_0 g301
                        have c5_1 := F5_1 g301
                        have d5_1 := H5_1 g301
                        clear S5 F5_0 H5_0 F5_1 H5_1
                        have S5 : ∀ g : Grown W4, b3x0 < g.w.heap.size := fun g => Nat.lt_of_lt_of_le Y5 g.h.size
                        have F5_0 : ∀ g : Grown W4, g.w.cell? ⟨b3x0, 0, none⟩ = some (.int .i64 mp1) := fun g => (g.cell Y5).trans ((Below.cell hL4 (p := ⟨b3x0, 0, none⟩) s5).trans c5_0)
                        have H5_0 : ∀ g : Grown W4, g.w.frozen? ⟨b3x0, 0, none⟩ = false := fun g => (g.frozen Y5).trans ((Below.frozen hL4 (p := ⟨b3x0, 0, none⟩) s5).trans d5_0)
                        have F5_1 : ∀ g : Grown W4, g.w.cell? ⟨b3x0, 1, none⟩ = some (.int .i64 mp2) := fun g => (g.cell Y5).trans ((Below.cell hL4 (p := ⟨b3x0, 1, none⟩) s5).trans c5_1)
                        have H5_1 : ∀ g : Grown W4, g.w.frozen? ⟨b3x0, 1, none⟩ = false := fun g => (g.frozen Y5).trans ((Below.frozen hL4 (p := ⟨b3x0, 1, none⟩) s5).trans d5_1)
                        clear Y5 s5 c5_0 d5_0 c5_1 d5_1
                        have s6 := S6 g301
                        have Y6 : b3x1 < W4.heap.size := Nat.lt_of_lt_of_le s6 hL4.size
                        have c6_0 := F6_0 g301
                        have d6_0 := H6_0 g301
                        have c6_1 := F6_1 g301
                        have d6_1 := H6_1 g301
                        clear S6 F6_0 H6_0 F6_1 H6_1
                        have S6 : ∀ g : Grown W4, b3x1 < g.w.heap.size := fun g => Nat.lt_of_lt_of_le Y6 g.h.size
                        have F6_0 : ∀ g : Grown W4, g.w.cell? ⟨b3x1, 0, none⟩ = some (.int .i64 ss1) := fun g => (g.cell Y6).trans ((Below.cell hL4 (p := ⟨b3x1, 0, none⟩) s6).trans c6_0)
                        have H6_0 : ∀ g : Grown W4, g.w.frozen? ⟨b3x1, 0, none⟩ = false := fun g => (g.frozen Y6).trans ((Below.frozen hL4 (p := ⟨b3x1, 0, none⟩) s6).trans d6_0)
                        have F6_1 : ∀ g : Grown W4, g.w.cell? ⟨b3x1, 1, none⟩ = some (.int .i64 ss2) := fun g => (g.cell Y6).trans ((Below.cell hL4 (p := ⟨b3x1, 1, none⟩) s6).trans c6_1)
                        have H6_1 : ∀ g : Grown W4, g.w.frozen? ⟨b3x1, 1, none⟩ = false := fun g => (g.frozen Y6).trans ((Below.frozen hL4 (p := ⟨b3x1, 1, none⟩) s6).trans d6_1)
                        clear Y6 s6 c6_0 d6_0 c6_1 d6_1
                        have s7 := S7 g301
                        have Y7 : b3x2 < W4.heap.size := Nat.lt_of_lt_of_le s7 hL4.size
                        have c7_0 := F7_0 g301
                        have d7_0 := H7_0 g301
                        have c7_1 := F7_1 g301
                        have d7_1 := H7_1 g301
                        clear S7 F7_0 H7_0 F7_1 H7_1
                        have S7 : ∀ g : Grown W4, b3x2 < g.w.heap.size := fun g => Nat.lt_of_lt_of_le Y7 g.h.size
                        have F7_0 : ∀ g : Grown W4, g.w.cell? ⟨b3x2, 0, none⟩ = some (.int .i64 qq1) := fun g => (g.cell Y7).trans ((Below.cell hL4 (p := ⟨b3x2, 0, none⟩) s7).trans c7_0)
                        have H7_0 : ∀ g : Grown W4, g.w.frozen? ⟨b3x2, 0, none⟩ = false := fun g => (g.frozen Y7).trans ((Below.frozen hL4 (p := ⟨b3x2, 0, none⟩) s7).trans d7_0)
                        have F7_1 : ∀ g : Grown W4, g.w.cell? ⟨b3x2, 1, none⟩ = some (.int .i64 qq2) := fun g => (g.cell Y7).trans ((Below.cell hL4 (p := ⟨b3x2, 1, none⟩) s7).trans c7_1)
                        have H7_1 : ∀ g : Grown W4, g.w.frozen? ⟨b3x2, 1, none⟩ = false := fun g => (g.frozen Y7).trans ((Below.frozen hL4 (p := ⟨b3x2, 1, none⟩) s7).trans d7_1)
                        clear Y7 s7 c7_0 d7_0 c7_1 d7_1
                        have s8 := S8 g301
                        have Y8 : b3x3 < W4.heap.size := Nat.lt_of_lt_of_le s8 hL4.size
                        have c8_0 := F8_0 g301
                        have d8_0 := H8_0 g301
                        have c8_1 := F8_1 g301
                        have d8_1 := H8_1 g301
                        clear S8 F8_0 H8_0 F8_1 H8_1
                        have S8 : ∀ g : Grown W4, b3x3 < g.w.heap.size := fun g => Nat.lt_of_lt_of_le Y8 g.h.size
                        have F8_0 : ∀ g : Grown W4, g.w.cell? ⟨b3x3, 0, none⟩ = some (.int .i64 uu1) := fun g => (g.cell Y8).trans ((Below.cell hL4 (p := ⟨b3x3, 0, none⟩) s8).trans c8_0)
                        have H8_0 : ∀ g : Grown W4, g.w.frozen? ⟨b3x3, 0, none⟩ = false := fun g => (g.frozen Y8).trans ((Below.frozen hL4 (p := ⟨b3x3, 0, none⟩) s8).trans d8_0)
                        have F8_1 : ∀ g : Grown W4, g.w.cell? ⟨b3x3, 1, none⟩ = some (.int .i64 uu2) := fun g => (g.cell Y8).trans ((Below.cell hL4 (p := ⟨b3x3, 1, none⟩) s8).trans c8_1)
                        have H8_1 : ∀ g : Grown W4, g.w.frozen? ⟨b3x3, 1, none⟩ = false := fun g => (g.frozen Y8).trans ((Below.frozen hL4 (p := ⟨b3x3, 1, none⟩) s8).trans d8_1)
                        clear Y8 s8 c8_0 d8_0 c8_1 d8_1
                        have Y9 : nb4 < W4.heap.size := by subst hW4; subst hnb4; simp <;> omega
                        have S9 : ∀ g : Grown W4, nb4 < g.w.heap.size := fun g => Nat.lt_of_lt_of_le Y9 g.h.size
                        have F9_0 : ∀ g : Grown W4, g.w.cell? ⟨nb4, 0, none⟩ = some (.int .i64 rr1) := fun g => (g.cell Y9).trans (by subst hW4; subst hnb4; simp [go_sem])
                        have H9_0 : ∀ g : Grown W4, g.w.frozen? ⟨nb4, 0, none⟩ = false := fun g => (g.frozen Y9).trans (by subst hW4; subst hnb4; simp [go_sem])
                        have F9_1 : ∀ g : Grown W4, g.w.cell? ⟨nb4, 1, none⟩ = some (.int .i64 rr2) := fun g => (g.cell Y9).trans (by subst hW4; subst hnb4; simp [go_sem])
                        have H9_1 : ∀ g : Grown W4, g.w.frozen? ⟨nb4, 1, none⟩ = false := fun g => (g.frozen Y9).trans (by subst hW4; subst hnb4; simp [go_sem])
                        clear Y9
                        rw [← hnb4]
                        clear hnb4 hW4 hT3 hL4
                        obtain ⟨h4, hg4⟩ : ∃ g : Grown W4, W4 = g.w := ⟨⟨W4, Below.refl _ _⟩, rfl⟩
                        rw [hg4]
                        clear hg4 g301
                        have y1 := cbR.out (by trivial)
                        have y2 := cbR2.out (by trivial)
                        cases es with
                        | false =>
                          obtain ⟨rfl, rfl⟩ := cbS.out (by trivial)
                          cases nz : (rr2 == 0) with
                          | false =>
                            have y3 := y2 nz
                            clear y2
                            go_wp2_with (fail)
                            refine (hes.out _).mono ?_
                            rintro e302 w302 ⟨rfl, hB302⟩
                            obtain ⟨g302, rfl⟩ := grow h4 hB302
                            clear hB302
                            go_wp2_with (fail)
                            have hB : Below w.heap.size w g302.w := below_then hT4 g302.h
                            go_ret
                            refine ⟨rfl, ?_⟩
                            go_grown
                          | true =>
                            clear y2
                            go_wp2_with (fail)
                            refine (hes.out _).mono ?_
                            rintro e302 w302 ⟨rfl, hB302⟩
                            obtain ⟨g302, rfl⟩ := grow h4 hB302
                            clear hB302
                            go_wp2_with (fail)
                            have hB : Below w.heap.size w g302.w := below_then hT4 g302.h
                            go_ret
                            refine ⟨rfl, ?_⟩
                            go_grown
                        | true =>
                          cases nz : (rr2 == 0) with
                          | false =>
                            have y3 := y2 nz
                            clear y2
                            go_wp2_with (fail)
                            refine (hes.out _).mono ?_
                            rintro e302 w302 ⟨rfl, hB302⟩
                            obtain ⟨g302, rfl⟩ := grow h4 hB302
                            clear hB302
                            go_wp2_with (fail)
                            have hB : Below w.heap.size w g302.w := below_then hT4 g302.h
                            go_ret
                            refine ⟨rfl, ?_⟩
                            go_grown
                          | true =>
                            clear y2
                            go_wp2_with (fail)
                            refine (hes.out _).mono ?_
                            rintro e302 w302 ⟨rfl, hB302⟩
                            obtain ⟨g302, rfl⟩ := grow h4 hB302
                            clear hB302
                            go_wp2_with (fail)
                            have hB : Below w.heap.size w g302.w := below_then hT4 g302.h
                            go_ret
                            refine ⟨rfl, ?_⟩
                            go_grown
end Go.Proofs.Ytpepgheocemjdaa
