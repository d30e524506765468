/-
  The sanity of the laws over matrices: its small parts.
  The sanity of the laws over matrices.
-/
import Derived.Test.YtmcdkbnpcmiojaaInv
import Derived.Test.YtmcdkbnpcmiojaaVec
import Derived.Test.YtmcdkbnpcmiojaaMx
import Derived.Test.YtmcdkbnpcmiojaaR4S
import Derived.Test.YtmcdkbnpcmiojaaPredK
namespace Go.Proofs.Ytmcdkbnpcmiojaa
open Go.ChangeShapes Go.WideShapes Go.ChangeAt Go.RowKit
set_option linter.unusedVariables false
set_option linter.unusedSimpArgs false
set_option maxRecDepth 100000
attribute [local irreducible] Calls
instance (p : Int × Int) : Decidable (VB p) := inferInstanceAs (Decidable (VI p.1 p.2))
theorem mx_lit1 {W : World} {u1 : Value} {r1 : List (Int × Int)} (h1 : Bx W u1 r1) : Mx (W.alloc (.cells #[u1] 40)) (.slice (some ⟨W.heap.size, 0, none⟩) 1 1) [r1] := by
  have hb : Below W.heap.size W (W.alloc (.cells #[u1] 40)) := (Below.refl _ _).alloc (Nat.le_refl _) _
  have hrow : (W.alloc (.cells #[u1] 40)).ownsRow W.heap.size 40 1 (.slice (some ⟨W.heap.size, 0, none⟩) 1 1) 1 [u1] := World.ownsRow_lit W #[u1] 1 (Nat.le_refl _) (by decide) rfl
  refine Lx.own (l := [r1]) hrow (by simp [maxLen]) fun k u x hu hx => ?_
  match k, hu, hx with
  | 0, hu, hx =>
    simp at hu hx
    subst hu
    subst hx
    exact h1.grow hb
  | k + 1, hu, hx => simp at hu
theorem nx_two {W : World} {u1 u2 : Value} {r1 r2 : List Int} (h1 : Pt W u1 r1) (h2 : Pt W u2 r2) : Nx (W.alloc (.cells #[u1, u2] 22)) (.slice (some ⟨W.heap.size, 0, none⟩) 2 2) [r1, r2] := by
  have hb : Below W.heap.size W (W.alloc (.cells #[u1, u2] 22)) := (Below.refl _ _).alloc (Nat.le_refl _) _
  have hrow : (W.alloc (.cells #[u1, u2] 22)).ownsRow W.heap.size 22 1 (.slice (some ⟨W.heap.size, 0, none⟩) 2 2) 2 [u1, u2] := World.ownsRow_lit W #[u1, u2] 2 (Nat.le_refl _) (by decide) rfl
  refine Lx.own (l := [r1, r2]) hrow (by simp [maxLen]) fun k u x hu hx => ?_
  match k, hu, hx with
  | 0, hu, hx =>
    simp at hu hx
    subst hu
    subst hx
    exact h1.grow hb
  | 1, hu, hx =>
    simp at hu hx
    subst hu
    subst hx
    exact h2.grow hb
  | k + 2, hu, hx => simp at hu
set_option maxHeartbeats 2000000 in
theorem square4 (a b c d : Int) (w : World) (ha : -1000 ≤ a ∧ a ≤ 1000) (hb : -1000 ≤ b ∧ b ≤ 1000) (hc : -1000 ≤ c ∧ c ≤ 1000) (hd : -1000 ≤ d ∧ d ≤ 1000) :
    Calls Try.prog 15 #[.int .i64 a, .int .i64 b, .int .i64 c, .int .i64 d] w fun e w' => ∃ u, e = .returned u ∧ Nx w' u [[a * 65536, b * 65536], [c * 65536, d * 65536]] ∧ Below w.heap.size w w' := by
  obtain ⟨a1, a2⟩ := ha
  obtain ⟨b1, b2⟩ := hb
  obtain ⟨c1, c2⟩ := hc
  obtain ⟨d1, d2⟩ := hd
  obtain ⟨A, hA⟩ : ∃ A, a * 65536 = A := ⟨_, rfl⟩
  obtain ⟨B, hB⟩ : ∃ A, b * 65536 = A := ⟨_, rfl⟩
  obtain ⟨C, hC⟩ : ∃ A, c * 65536 = A := ⟨_, rfl⟩
  obtain ⟨D, hD⟩ : ∃ A, d * 65536 = A := ⟨_, rfl⟩
  have l1 := pt_lit2 w A B
  have g1 : Below w.heap.size w (w.alloc (.cells #[.int .i64 A, .int .i64 B] 2)) := (Below.refl _ _).alloc (Nat.le_refl _) _
  have l2 := pt_lit2 (w.alloc (.cells #[.int .i64 A, .int .i64 B] 2)) C D
  have g2 : Below (w.alloc (.cells #[.int .i64 A, .int .i64 B] 2)).heap.size (w.alloc (.cells #[.int .i64 A, .int .i64 B] 2)) ((w.alloc (.cells #[.int .i64 A, .int .i64 B] 2)).alloc (.cells #[.int .i64 C, .int .i64 D] 2)) := (Below.refl _ _).alloc (Nat.le_refl _) _
  have n1 := nx_two (l1.grow g2) l2
  have HN := Lib.hid n1
  have HG := Lib.hid (g1.trans (g2.mono g1.size))
  have k1 : -9223372036854775808 ≤ a * 65536 := by omega
  have k2 : a * 65536 ≤ 9223372036854775807 := by omega
  have k3 : -9223372036854775808 ≤ b * 65536 := by omega
  have k4 : b * 65536 ≤ 9223372036854775807 := by omega
  have k5 : -9223372036854775808 ≤ c * 65536 := by omega
  have k6 : c * 65536 ≤ 9223372036854775807 := by omega
  have k7 : -9223372036854775808 ≤ d * 65536 := by omega
  have k8 : d * 65536 ≤ 9223372036854775807 := by omega
  clear l1 l2 g1 g2 n1
  subst hA hB hC hD
  go_enter Try.func15, Try.ntmps15
  go_wp2_with (fail)
  go_ret
  have hn := HN.out
  have hg := HG.out
  simp only [World.size_alloc] at hn
  refine ⟨_, rfl, ?_, hg.alloc (by simp; omega) _⟩
  simpa using hn
theorem from4 (v : Value) (a b c d : Int) (a' b' c' d' : Int × Int) (w : World) (h : Nx w v [[a, b], [c, d]]) (e : [[a, b], [c, d]].map (List.map ptI) = [[a', b'], [c', d']]) :
    Calls Try.prog 14 #[v] w fun e w' => ∃ u, e = .returned u ∧ Mx w' u [[a', b'], [c', d']] ∧ Below w.heap.size w w' := by
  rw [← e]
  exact mx_from v _ w h (by simp) (by simp)
/-- The number matrix of sanity's frame. -/
def mOrt : List (List Int) := [[65536, 65536], [0, 65536]]
theorem isq_one : isq 4294967296 = 65536 := by
  obtain ⟨h1, h2, h3⟩ := isq_spec (n := 4294967296) (by decide)
  have a : isq 4294967296 ≤ 65536 := by
    apply Int.not_lt.1
    intro h
    have := Int.mul_le_mul (show (65537 : Int) ≤ isq 4294967296 by omega) (show (65537 : Int) ≤ isq 4294967296 by omega) (by decide) (by omega)
    omega
  have b : 65536 ≤ isq 4294967296 := by
    apply Int.not_lt.1
    intro h
    have := Int.mul_le_mul (show isq 4294967296 + 1 ≤ (65536 : Int) by omega) (show isq 4294967296 + 1 ≤ (65536 : Int) by omega) (by omega) (by decide)
    omega
  omega
theorem len_u0 : lenV [65536, 0, 0, 0, 0, 0] = 65536 := by
  unfold lenV
  rw [show sqV [65536, 0, 0, 0, 0, 0] = 4294967296 by decide, isq_one]
  decide
theorem len_u1 : lenV [0, 65536, 0, 0, 0, 0] = 65536 := by
  unfold lenV
  rw [show sqV [0, 65536, 0, 0, 0, 0] = 4294967296 by decide, isq_one]
  decide
theorem frame1 : frameV mOrt 2 1 = [[65536, 0, 0, 0, 0, 0]] := by
  rw [frameV, frameV, dirV]
  rw [show redV [] (colV mOrt 0) = [65536, 0, 0, 0, 0, 0] by decide, len_u0, if_pos (by decide), normV, len_u0]
  decide
theorem frame2 : frameV mOrt 2 2 = [[65536, 0, 0, 0, 0, 0], [0, 65536, 0, 0, 0, 0]] := by
  rw [frameV, frame1, dirV]
  rw [show redV [[65536, 0, 0, 0, 0, 0]] (colV mOrt 1) = [0, 65536, 0, 0, 0, 0] by decide, len_u1, if_pos (by decide), normV, len_u1]
  decide
theorem red_ok_dec (us : List (List Int)) (w : List Int) (h : ((List.range 3).all fun p => (List.range us.length).all fun k => (redAt us w p k).all fun a => decide (-67108864 ≤ a ∧ a ≤ 67108864)) = true) (h2 : ((redV us w).all fun a => decide (-1073741824 ≤ a ∧ a ≤ 1073741824)) = true) : RedOk us w := by
  refine ⟨fun p k hp hk a ha => ?_, fun a ha => ?_⟩
  · have h1 := List.all_eq_true.1 h p (List.mem_range.2 hp)
    have h3 := List.all_eq_true.1 h1 k (List.mem_range.2 hk)
    have h4 := List.all_eq_true.1 h3 a ha
    simpa using h4
  · have := List.all_eq_true.1 h2 a ha
    simpa using this
theorem ort4 (v : Value) (w : World) (h : Nx w v [[65536, 65536], [0, 65536]]) :
    Calls Try.prog 7 #[v] w fun e w' => ∃ u, e = .returned u ∧ Nx w' u [[65536, 0], [0, 65536]] ∧ Below w.heap.size w w' := by
  have e : matOf (orthF mOrt 2) 2 = [[65536, 0], [0, 65536]] := by
    have : ∀ i j, orthF mOrt 2 i j = ((([[65536, 0, 0, 0, 0, 0], [0, 65536, 0, 0, 0, 0]] : List (List Int))[j]?).bind fun u => u[i]?).getD 0 := fun i j => by
      unfold orthF
      rw [frame2]
    have e2 : orthF mOrt 2 = fun i j => ((([[65536, 0, 0, 0, 0, 0], [0, 65536, 0, 0, 0, 0]] : List (List Int))[j]?).bind fun u => u[i]?).getD 0 := funext fun i => funext fun j => this i j
    rw [e2]
    decide
  rw [← e]
  refine orth_ok v mOrt 2 w h rfl (by decide) (by decide) (by decide) (fun k hk u hu => ?_) (fun k hk => ?_)
  · match k, hk, hu with
    | 0, _, hu => simp [frameV] at hu
    | 1, _, hu =>
      rw [frame1] at hu
      simp at hu
      subst hu
      decide
    | 2, _, hu =>
      rw [frame2] at hu
      simp at hu
      rcases hu with rfl | rfl <;> decide
  · match k, hk with
    | 0, _ => exact ⟨red_ok_dec _ _ (by decide) (by decide), fun j hj => match j, hj with
      | 0, _ => red_ok_dec _ _ (by decide) (by decide)
      | 1, _ => red_ok_dec _ _ (by decide) (by decide)⟩
    | 1, _ =>
      rw [frame1]
      exact ⟨red_ok_dec _ _ (by decide) (by decide), fun j hj => match j, hj with
      | 0, _ => red_ok_dec _ _ (by decide) (by decide)
      | 1, _ => red_ok_dec _ _ (by decide) (by decide)⟩
theorem nx_open {w : World} {p : Option Addr} {n c j : Nat} {M : List (List Int)} {r : List Int} (h : Nx w (.slice p n c) M) (hr : M[j]? = some r) (h0 : 0 < r.length) : ∃ b o b2 o2 c2, p = some ⟨b, o, none⟩ ∧ (∀ g : Grown w, g.w.cell? ⟨b, o + j, none⟩ = some (.slice (some ⟨b2, o2, none⟩) r.length c2)) ∧ (∀ (g : Grown w) (k : Nat) (x : Int), r[k]? = some x → g.w.cell? ⟨b2, o2 + k, none⟩ = some (.int .i64 x)) := by
  obtain ⟨b, o, u, hp, hb, rd⟩ := h.rd grows_pt hr
  have hu := (rd ⟨w, Below.refl _ _⟩).2.2
  obtain ⟨_, q, c2, rfl, hq⟩ := hu
  obtain ⟨b2, o2, e, _, _⟩ := hq 0 _ (List.getElem?_eq_getElem h0)
  subst e
  refine ⟨b, o, b2, o2, c2, hp, fun g => (rd g).2.1, fun g k x hx => ?_⟩
  obtain ⟨b', o', e, h1, h2⟩ := hq k x hx
  simp only [Option.some.injEq, Addr.mk.injEq, and_true] at e
  obtain ⟨rfl, rfl⟩ := e
  exact (g.cell h1).trans h2
theorem inv_yes4 : invV [[(131072, 131072), (0, 0)], [(0, 0), (262144, 262144)]] 2 = some [[(32768, 32768), (0, 0)], [(0, 0), (16384, 16384)]] := by decide
theorem inv_no4 : invV [[(65536, 65536), (65536, 65536)], [(65536, 65536), (65536, 65536)]] 2 = none := by decide
theorem mul4 : mulM [[(65536, 65536), (131072, 131072)], [(0, 0), (65536, 65536)]] (matOf (trF (0, 0) [[(65536, 65536), (131072, 131072)], [(0, 0), (65536, 65536)]]) 2) = [[(65536, 65536), (262144, 262144)], [(0, 0), (65536, 65536)]] := by decide
theorem tr4 : matOf (trF ((0 : Int), (0 : Int)) [[(65536, 65536), (131072, 131072)], [(0, 0), (65536, 65536)]]) 2 = [[(65536, 65536), (0, 0)], [(131072, 131072), (65536, 65536)]] := by decide
theorem ap4 : [[((65536 : Int), (65536 : Int)), (131072, 131072)], [(0, 0), (65536, 65536)]].map (fun r => dotI (r.zip [(65536, 65536), (65536, 65536)])) = [(196608, 196608), (65536, 65536)] := by decide
theorem mid4 : [[((-3 : Int), (0 : Int))]].map (List.map midI) = [[-2]] := by decide
end Go.Proofs.Ytmcdkbnpcmiojaa

namespace Go.Proofs.Ytmcdkbnpcmiojaa
open Go.ChangeShapes Go.WideShapes Go.ChangeAt Go.RowKit
set_option linter.unusedVariables false
set_option linter.unusedSimpArgs false
set_option maxRecDepth 100000
attribute [local irreducible] Calls

theorem steady_mx (l : List (List (Int × Int))) : Steady (fun u w' => Mx w' u l) := fun v w1 w2 hb h => h.grow grows_bx hb
theorem steady_nx (l : List (List Int)) : Steady (fun u w' => Nx w' u l) := fun v w1 w2 hb h => h.grow grows_pt hb
section
variable (b4 o4 c4 b40 o40 c40 b41 o41 c41 b11 o11 c11 b110 o110 c110 : Nat)
def phiS : Tmp → Value → World → Prop := lk [(72, fun u w' => Mx w' u [[(65536, 65536), (131072, 131072)], [(0, 0), (65536, 65536)]]),
  (73, fun u _ => u = .bool true),
  (74, fun u _ => u = .bool true),
  (75, fun u _ => u = .bool false),
  (76, fun u _ => u = .bool true),
  (77, fun u _ => u = .bool true),
  (78, fun u _ => u = .bool true),
  (79, fun u _ => u = .agg #[.int .i64 65536, .int .i64 65536]),
  (80, fun u _ => u = .agg #[.int .i64 65536, .int .i64 65536]),
  (81, fun u w' => Bx w' u [(65536, 65536), (65536, 65536)]),
  (82, fun u w' => Mx w' u [[(65536, 65536), (65536, 65536)]]),
  (83, fun u _ => u = .bool false),
  (84, fun u _ => u = .bool true),
  (85, fun u _ => u = .bool true),
  (86, fun u _ => u = .bool true),
  (87, fun u _ => u = .agg #[.int .i64 2, .int .i64 1]),
  (88, fun u w' => Bx w' u [(2, 1)]),
  (89, fun u w' => Mx w' u [[(2, 1)]]),
  (90, fun u _ => u = .bool false),
  (91, fun u _ => u = .bool true),
  (92, fun u _ => u = .bool true),
  (93, fun u _ => u = .bool true),
  (94, fun u w' => Bx w' u [(196608, 196608), (65536, 65536)]),
  (95, fun u _ => u = .agg #[.int .i64 196608, .int .i64 196608]),
  (96, fun u _ => u = .agg #[.int .i64 65536, .int .i64 65536]),
  (97, fun u w' => Bx w' u [(196608, 196608), (65536, 65536)]),
  (98, fun u _ => u = .bool true),
  (99, fun u _ => u = .bool true),
  (100, fun u _ => u = .bool true),
  (101, fun u _ => u = .slice (some ⟨b4, o4, none⟩) 2 c4),
  (102, fun u _ => u = .pointer (some ⟨b4, o4, none⟩)),
  (103, fun u _ => u = .slice (some ⟨b40, o40, none⟩) 2 c40),
  (104, fun u _ => u = .pointer (some ⟨b40, o40, none⟩)),
  (105, fun u _ => u = .int .i64 65536),
  (106, fun u _ => u = .bool true),
  (107, fun u _ => u = .bool true),
  (108, fun u _ => u = .bool true),
  (109, fun u _ => u = .slice (some ⟨b4, o4, none⟩) 2 c4),
  (110, fun u _ => u = .pointer (some ⟨b4, o4, none⟩)),
  (111, fun u _ => u = .slice (some ⟨b40, o40, none⟩) 2 c40),
  (112, fun u _ => u = .pointer (some ⟨b40, o40 + 1, none⟩)),
  (113, fun u _ => u = .int .i64 0),
  (114, fun u _ => u = .bool true),
  (115, fun u _ => u = .bool true),
  (116, fun u _ => u = .bool true),
  (117, fun u _ => u = .slice (some ⟨b4, o4, none⟩) 2 c4),
  (118, fun u _ => u = .pointer (some ⟨b4, o4 + 1, none⟩)),
  (119, fun u _ => u = .slice (some ⟨b41, o41, none⟩) 2 c41),
  (120, fun u _ => u = .pointer (some ⟨b41, o41, none⟩)),
  (121, fun u _ => u = .int .i64 0),
  (122, fun u _ => u = .bool true),
  (123, fun u _ => u = .bool true),
  (124, fun u _ => u = .bool true),
  (125, fun u _ => u = .slice (some ⟨b4, o4, none⟩) 2 c4),
  (126, fun u _ => u = .pointer (some ⟨b4, o4 + 1, none⟩)),
  (127, fun u _ => u = .slice (some ⟨b41, o41, none⟩) 2 c41),
  (128, fun u _ => u = .pointer (some ⟨b41, o41 + 1, none⟩)),
  (129, fun u _ => u = .int .i64 65536),
  (130, fun u _ => u = .bool true),
  (131, fun u _ => u = .bool true),
  (132, fun u _ => u = .bool true),
  (133, fun u w' => Mx w' u [[(32768, 32768), (0, 0)], [(0, 0), (16384, 16384)]]),
  (134, fun u _ => u = .agg #[.int .i64 32768, .int .i64 32768]),
  (135, fun u _ => u = .agg #[.int .i64 0, .int .i64 0]),
  (136, fun u w' => Bx w' u [(32768, 32768), (0, 0)]),
  (137, fun u _ => u = .agg #[.int .i64 0, .int .i64 0]),
  (138, fun u _ => u = .agg #[.int .i64 16384, .int .i64 16384]),
  (139, fun u w' => Bx w' u [(0, 0), (16384, 16384)]),
  (140, fun u w' => Mx w' u [[(32768, 32768), (0, 0)], [(0, 0), (16384, 16384)]]),
  (141, fun u _ => u = .bool true),
  (142, fun u _ => u = .bool true),
  (143, fun u _ => u = .bool true),
  (144, fun u _ => u = .bool true),
  (145, fun u _ => u = .bool true),
  (146, fun u _ => u = .bool true),
  (147, fun u _ => u = .bool false),
  (148, fun u _ => u = .bool true),
  (149, fun u _ => u = .bool true),
  (150, fun u _ => u = .bool true),
  (151, fun u w' => Mx w' u [[(65536, 65536), (262144, 262144)], [(0, 0), (65536, 65536)]]),
  (152, fun u w' => Nx w' u [[65536, 262144], [0, 65536]]),
  (153, fun u w' => Mx w' u [[(65536, 65536), (262144, 262144)], [(0, 0), (65536, 65536)]]),
  (154, fun u _ => u = .bool true),
  (155, fun u _ => u = .bool true),
  (156, fun u _ => u = .bool true),
  (157, fun u w' => Mx w' u [[(65536, 65536), (0, 0)], [(131072, 131072), (65536, 65536)]]),
  (158, fun u w' => Nx w' u [[65536, 0], [131072, 65536]]),
  (159, fun u w' => Mx w' u [[(65536, 65536), (0, 0)], [(131072, 131072), (65536, 65536)]]),
  (160, fun u _ => u = .bool true),
  (161, fun u _ => u = .bool true),
  (162, fun u _ => u = .bool true),
  (163, fun u _ => u = .slice (some ⟨b11, o11, none⟩) 1 c11),
  (164, fun u _ => u = .pointer (some ⟨b11, o11, none⟩)),
  (165, fun u _ => u = .slice (some ⟨b110, o110, none⟩) 1 c110),
  (166, fun u _ => u = .pointer (some ⟨b110, o110, none⟩)),
  (167, fun u _ => u = .int .i64 (-2)),
  (168, fun u _ => u = .bool true),
  (169, fun u _ => u = .bool true),
  (170, fun u _ => u = .bool true),
  (171, fun u w' => Mx w' u [[(65536, 65536), (0, 0)], [(0, 0), (65536, 65536)]]),
  (172, fun u w' => Nx w' u [[65536, 0], [0, 65536]]),
  (173, fun u w' => Mx w' u [[(65536, 65536), (0, 0)], [(0, 0), (65536, 65536)]]),
  (174, fun u _ => u = .bool true),
  (175, fun u _ => u = .bool true),
  (176, fun u _ => u = .bool true),
  (177, fun u _ => u = .slice none 0 0),
  (178, fun u _ => u = .int .i64 0),
  (179, fun u _ => u = .bool true),
  (180, fun u _ => u = .bool true),
  (181, fun u _ => u = .bool true),
  (182, fun u _ => u = .slice none 0 0),
  (183, fun u _ => u = .int .i64 0),
  (184, fun u _ => u = .bool true),
  (185, fun u _ => u = .bool true),
  (0, fun u _ => u = .bool true)]
theorem sane_end (w w15 : World) (aa : Act) (hdf : aa.defers = []) (hu : aa.tmps[0]? = some (.bool true)) (hT : Below w.heap.size w w15) : Code.ret.wp Try.prog (bodyPost Try.prog Try.f5 fun e w' => e = .returned (.bool true) ∧ Below w.heap.size w w') aa w15 :=
  wp_ret (bodyPost_ret (v := .bool true) (by simp [results, Try.results5, go_sem, hu]) hdf ⟨rfl, hT⟩)
theorem phiS_steady : ∀ t v w1 w2, Below w1.heap.size w1 w2 → phiS b4 o4 c4 b40 o40 c40 b41 o41 c41 b11 o11 c11 b110 o110 c110 t v w1 → phiS b4 o4 c4 b40 o40 c40 b41 o41 c41 b11 o11 c11 b110 o110 c110 t v w2 := lk_steady _ ⟨steady_mx _, steady_eq _, steady_eq _, steady_eq _, steady_eq _, steady_eq _, steady_eq _, steady_eq _, steady_eq _, steady_bx _, steady_mx _, steady_eq _, steady_eq _, steady_eq _, steady_eq _, steady_eq _, steady_bx _, steady_mx _, steady_eq _, steady_eq _, steady_eq _, steady_eq _, steady_bx _, steady_eq _, steady_eq _, steady_bx _, steady_eq _, steady_eq _, steady_eq _, steady_eq _, steady_eq _, steady_eq _, steady_eq _, steady_eq _, steady_eq _, steady_eq _, steady_eq _, steady_eq _, steady_eq _, steady_eq _, steady_eq _, steady_eq _, steady_eq _, steady_eq _, steady_eq _, steady_eq _, steady_eq _, steady_eq _, steady_eq _, steady_eq _, steady_eq _, steady_eq _, steady_eq _, steady_eq _, steady_eq _, steady_eq _, steady_eq _, steady_eq _, steady_eq _, steady_eq _, steady_eq _, steady_mx _, steady_eq _, steady_eq _, steady_bx _, steady_eq _, steady_eq _, steady_bx _, steady_mx _, steady_eq _, steady_eq _, steady_eq _, steady_eq _, steady_eq _, steady_eq _, steady_eq _, steady_eq _, steady_eq _, steady_eq _, steady_mx _, steady_nx _, steady_mx _, steady_eq _, steady_eq _, steady_eq _, steady_mx _, steady_nx _, steady_mx _, steady_eq _, steady_eq _, steady_eq _, steady_eq _, steady_eq _, steady_eq _, steady_eq _, steady_eq _, steady_eq _, steady_eq _, steady_eq _, steady_mx _, steady_nx _, steady_mx _, steady_eq _, steady_eq _, steady_eq _, steady_eq _, steady_eq _, steady_eq _, steady_eq _, steady_eq _, steady_eq _, steady_eq _, steady_eq _, steady_eq _, steady_eq _, trivial⟩
end

set_option maxHeartbeats 16000000 in
theorem sanity4 (w : World) : Calls Try.prog 5 #[] w fun e w' => e = .returned (.bool true) ∧ Below w.heap.size w w' := by
  go_enter Try.func5, Try.ntmps5
  go_wp2_with (fail)
  refine (square4 1 2 0 1 _ (by decide) (by decide) (by decide) (by decide)).mono ?_
  rintro e w' ⟨u1, rfl, hu1, hB⟩
  obtain ⟨g1, rfl⟩ := grow ⟨w, Below.refl _ _⟩ hB
  clear hB
  go_wp2_with (fail)
  refine (from4 _ 65536 131072 0 65536 (65536, 65536) (131072, 131072) (0, 0) (65536, 65536) _ hu1 (by decide)).mono ?_
  rintro e w' ⟨v1, rfl, h1, hB⟩
  obtain ⟨g2, rfl⟩ := grow g1 hB
  replace hu1 := hu1.grow grows_pt hB
  clear hB
  clear hu1
  go_wp2_with (fail)
  refine (r2point 65536 _).mono ?_
  rintro e w' ⟨he, hB⟩
  obtain ⟨g3, rfl⟩ := grow g2 hB
  replace h1 := h1.grow grows_bx hB
  clear hB
  obtain rfl : e = .returned (.agg #[.int .i64 65536, .int .i64 65536]) := he.trans (by rfl)
  clear he
  have hone : IvBox (g3.w.alloc (.cells #[.int .i64 65536, .int .i64 65536] 38)) g3.w.heap.size (65536, 65536) := IvBox.new _ _ _
  have hB : Below g3.w.heap.size g3.w (g3.w.alloc (.cells #[.int .i64 65536, .int .i64 65536] 38)) := (Below.refl _ _).alloc (Nat.le_refl _) _
  go_wp2_with (fail)
  have hx := bx_lit2 (g3.w.alloc (.cells #[.int .i64 65536, .int .i64 65536] 38)) 65536 65536 65536 65536
  have hB2 := hB.alloc (hB.size) (.cells #[.int .i64 65536, .int .i64 65536, .int .i64 65536, .int .i64 65536] 38)
  have hone2 := hone.alloc (.cells #[.int .i64 65536, .int .i64 65536, .int .i64 65536, .int .i64 65536] 38)
  simp only [World.size_alloc] at hx
  have ca := mx_apply v1 _ [[(65536, 65536), (131072, 131072)], [(0, 0), (65536, 65536)]] [(65536, 65536), (65536, 65536)] 2 _ (h1.grow grows_bx hB2) hx (by decide) (by decide) rfl (by decide)
  rw [ap4] at ca
  refine ca.mono ?_
  clear ca hx hB hone
  rintro e w' ⟨v3, rfl, h3, hB⟩
  have hone := iv_to hone2 hB
  have hB3 := hB2.trans (hB.mono hB2.size)
  clear hB hone2 hB2
  obtain ⟨g4, rfl⟩ := grow g3 hB3
  replace h1 := h1.grow grows_bx hB3
  clear hB3
  go_wp2_with (fail)
  refine (square4 1 1 0 1 _ (by decide) (by decide) (by decide) (by decide)).mono ?_
  rintro e w' ⟨u2, rfl, hu2, hB⟩
  obtain ⟨g5, rfl⟩ := grow g4 hB
  replace h3 := h3.grow hB
  replace h1 := h1.grow grows_bx hB
  replace hone := iv_to hone hB
  clear hB
  go_wp2_with (fail)
  refine (ort4 _ _ hu2).mono ?_
  rintro e w' ⟨v4, rfl, h4, hB⟩
  obtain ⟨g6, rfl⟩ := grow g5 hB
  replace h3 := h3.grow hB
  replace h1 := h1.grow grows_bx hB
  replace hu2 := hu2.grow grows_pt hB
  replace hone := iv_to hone hB
  clear hB
  clear hu2
  go_wp2_with (fail)
  refine (square4 2 0 0 4 _ (by decide) (by decide) (by decide) (by decide)).mono ?_
  rintro e w' ⟨u3, rfl, hu3, hB⟩
  obtain ⟨g7, rfl⟩ := grow g6 hB
  replace h3 := h3.grow hB
  replace h1 := h1.grow grows_bx hB
  replace h4 := h4.grow grows_pt hB
  replace hone := iv_to hone hB
  clear hB
  go_wp2_with (fail)
  refine (from4 _ 131072 0 0 262144 (131072, 131072) (0, 0) (0, 0) (262144, 262144) _ hu3 (by decide)).mono ?_
  rintro e w' ⟨v6, rfl, h6, hB⟩
  obtain ⟨g8, rfl⟩ := grow g7 hB
  replace h3 := h3.grow hB
  replace h1 := h1.grow grows_bx hB
  replace h4 := h4.grow grows_pt hB
  replace hu3 := hu3.grow grows_pt hB
  replace hone := iv_to hone hB
  clear hB
  clear hu3
  go_wp2_with (fail)
  refine (inv_ok v6 [[(131072, 131072), (0, 0)], [(0, 0), (262144, 262144)]] 2 _ h6 (by unfold Sq; decide) (by decide) (by decide)).mono ?_
  rintro e w' ⟨r1, _, hB⟩
  obtain ⟨v5, rfl, h5⟩ := r1 _ inv_yes4
  clear r1 h6
  obtain ⟨g9, rfl⟩ := grow g8 hB
  replace h3 := h3.grow hB
  replace h1 := h1.grow grows_bx hB
  replace h4 := h4.grow grows_pt hB
  replace hone := iv_to hone hB
  clear hB
  go_wp2_with (fail)
  refine (square4 1 1 1 1 _ (by decide) (by decide) (by decide) (by decide)).mono ?_
  rintro e w' ⟨u7, rfl, hu7, hB⟩
  obtain ⟨g10, rfl⟩ := grow g9 hB
  replace h3 := h3.grow hB
  replace h1 := h1.grow grows_bx hB
  replace h5 := h5.grow grows_bx hB
  replace h4 := h4.grow grows_pt hB
  replace hone := iv_to hone hB
  clear hB
  go_wp2_with (fail)
  refine (from4 _ 65536 65536 65536 65536 (65536, 65536) (65536, 65536) (65536, 65536) (65536, 65536) _ hu7 (by decide)).mono ?_
  rintro e w' ⟨v7, rfl, h7, hB⟩
  obtain ⟨g11, rfl⟩ := grow g10 hB
  replace h3 := h3.grow hB
  replace h1 := h1.grow grows_bx hB
  replace h5 := h5.grow grows_bx hB
  replace h4 := h4.grow grows_pt hB
  replace hu7 := hu7.grow grows_pt hB
  replace hone := iv_to hone hB
  clear hB
  clear hu7
  go_wp2_with (fail)
  refine (inv_ok v7 [[(65536, 65536), (65536, 65536)], [(65536, 65536), (65536, 65536)]] 2 _ h7 (by unfold Sq; decide) (by decide) (by decide)).mono ?_
  rintro e w' ⟨_, r2, hB⟩
  obtain rfl := r2 inv_no4
  clear r2 h7
  obtain ⟨g12, rfl⟩ := grow g11 hB
  replace h3 := h3.grow hB
  replace h1 := h1.grow grows_bx hB
  replace h5 := h5.grow grows_bx hB
  replace h4 := h4.grow grows_pt hB
  replace hone := iv_to hone hB
  clear hB
  have cm := mx_mul v1 v1 [[(65536, 65536), (131072, 131072)], [(0, 0), (65536, 65536)]] [[(65536, 65536), (131072, 131072)], [(0, 0), (65536, 65536)]] 2 _ h1 h1 (by unfold Sq; decide) (by unfold Sq; decide) (by decide) (by decide)
  rw [mul4] at cm
  go_wp2_with (fail)
  refine (cm).mono ?_
  rintro e w' ⟨v9, rfl, h9, hB⟩
  obtain ⟨g13, rfl⟩ := grow g12 hB
  replace h3 := h3.grow hB
  replace h1 := h1.grow grows_bx hB
  replace h5 := h5.grow grows_bx hB
  replace h4 := h4.grow grows_pt hB
  replace hone := iv_to hone hB
  clear hB
  clear cm
  have cm := mx_transpose v1 [[(65536, 65536), (131072, 131072)], [(0, 0), (65536, 65536)]] 2 _ h1 rfl (by decide) (by decide) (by decide)
  rw [tr4] at cm
  go_wp2_with (fail)
  refine (cm).mono ?_
  rintro e w' ⟨v10, rfl, h10, hB⟩
  obtain ⟨g14, rfl⟩ := grow g13 hB
  replace h3 := h3.grow hB
  replace h1 := h1.grow grows_bx hB
  replace h5 := h5.grow grows_bx hB
  replace h9 := h9.grow grows_bx hB
  replace h4 := h4.grow grows_pt hB
  replace hone := iv_to hone hB
  clear hB
  clear cm
  have hx := mx_lit1 (bx_lit1 g14.w (-3) 0)
  simp only [World.size_alloc] at hx
  have hA := ((Below.refl g14.w.heap.size g14.w).alloc (Nat.le_refl _) (.cells #[.int .i64 (-3), .int .i64 0] 38)).alloc (by simp) (.cells #[.slice (some ⟨g14.w.heap.size, 0, none⟩) 1 1] 40)
  have cm := mx_midm _ [[(-3, 0)]] _ hx (by decide) (by decide)
  rw [mid4] at cm
  go_wp2_with (fail)
  refine cm.mono ?_
  rintro e w' ⟨v11, rfl, h11, hB0⟩
  have hB := hA.trans (hB0.mono hA.size)
  clear cm hx hA hB0
  obtain ⟨g15, rfl⟩ := grow g14 hB
  replace h3 := h3.grow hB
  replace h1 := h1.grow grows_bx hB
  replace h5 := h5.grow grows_bx hB
  replace h9 := h9.grow grows_bx hB
  replace h10 := h10.grow grows_bx hB
  replace h4 := h4.grow grows_pt hB
  replace hone := iv_to hone hB
  clear hB
  obtain ⟨p4, c4, rfl⟩ := h4.shape rfl
  obtain ⟨b4, o4, b40, o40, c40, rfl, f40, n40⟩ := nx_open h4 (j := 0) rfl (by decide)
  obtain ⟨b4', o4', b41, o41, c41, e4, f41, n41⟩ := nx_open h4 (j := 1) rfl (by decide)
  obtain ⟨rfl, rfl⟩ : b4 = b4' ∧ o4 = o4' := by simpa using e4
  obtain ⟨p11, c11, rfl⟩ := h11.shape rfl
  obtain ⟨b11, o11, b110, o110, c110, rfl, f110, n110⟩ := nx_open h11 (j := 0) rfl (by decide)
  have n400 := fun g => n40 g 0 65536 rfl
  have n401 := fun g => n40 g 1 0 rfl
  have n410 := fun g => n41 g 0 0 rfl
  have n411 := fun g => n41 g 1 65536 rfl
  have n110' := fun g => n110 g 0 (-2) rfl
  have fone0 : ∀ g : Grown g15.w, _ := fun g => (iv_to hone g.h).cell0
  have fone1 : ∀ g : Grown g15.w, _ := fun g => (iv_to hone g.h).cell1
  clear n40 n41 n110 e4
  simp only [Nat.add_zero, List.length_cons, List.length_nil, Nat.zero_add] at f40 f41 f110 n400 n401 n410 n411 n110'
  dsimp only at fone0 fone1
  rename ∀ (g : Grown g15.w), g.w.cell? ⟨b110, o110, none⟩ = _ => n110
  have w40 := f40 ⟨g15.w, Below.refl _ _⟩
  have w41 := f41 ⟨g15.w, Below.refl _ _⟩
  have w110 := f110 ⟨g15.w, Below.refl _ _⟩
  dsimp only at w40 w41 w110
  have hT := g15.h
  clear h4 h11 hone
  go_wp2_with (fail)
  simp only [List.append_eq, List.cons_append, List.nil_append]
  refine region_pred_raw (phiS b4 o4 c4 b40 o40 c40 b41 o41 c41 b11 o11 c11 b110 o110 c110) rfl (by as_aux_lemma => kernel_rfl) (phiS_steady b4 o4 c4 b40 o40 c40 b41 o41 c41 b11 o11 c11 b110 o110 c110) ?_ ?_
  · refine ⟨?_, ?_, ?_, ?_, ?_, ?_, ?_, ?_, ?_, ?_, ?_, ?_, ?_, ?_, ?_, ?_, ?_, ?_, ?_, ?_, ?_, ?_, ?_, ?_, ?_, ?_, ?_, ?_, ?_, ?_, ?_, ?_, ?_, ?_, ?_, ?_, ?_, ?_, ?_, ?_, ?_, ?_, ?_, ?_, ?_, ?_, ?_, ?_, ?_, ?_, ?_, ?_, ?_, ?_, ?_, ?_, ?_, ?_, ?_, ?_, ?_, ?_, ?_, ?_, ?_, ?_, ?_, ?_, ?_, ?_, ?_, ?_, ?_, ?_, ?_, ?_, ?_, ?_, ?_, ?_, ?_, ?_, ?_, ?_, ?_, ?_, ?_, ?_, ?_, ?_, ?_, ?_, ?_, ?_, ?_, ?_, ?_, ?_, ?_, ?_, ?_, ?_, ?_, ?_, ?_, ?_, ?_, ?_, ?_, ?_, ?_, ?_, ?_, ?_, ?_, trivial⟩
    · refine ob_plain [1] rfl rfl fun aa g h => ?_
      have r0 := seen_out (v := v1) rfl rfl h.1
      have e0 := getD_of r0
      exact upon_value (v := v1) (by simp [go_sem, e0, r0]) (Below.refl _ _) (h1.grow grows_bx g.h)
    · refine ob_plain [72] rfl rfl fun aa g h => ?_
      obtain ⟨v0, r0, p0⟩ := seen_in rfl h.1
      have e0 := getD_of r0
      refine upon_enter (f := 22) (args := #[v0]) (by simp [go_sem, e0, r0]) rfl ?_
      exact (mx_valid _ [[(65536, 65536), (131072, 131072)], [(0, 0), (65536, 65536)]] _ (p0)).mono fun e w' ⟨he, hB⟩ => ⟨_, he, hB, congrArg Value.bool (by decide)⟩
    · refine ob_plain [73] rfl rfl fun aa g h => ?_
      obtain ⟨_, r0, rfl⟩ := seen_in rfl h.1
      have e0 := getD_of r0
      exact upon_value (v := .bool true) (by simp [go_sem, e0, r0]) (Below.refl _ _) rfl
    · refine ob_gtrue [] 2 true 74 rfl rfl rfl rfl (fun v w h => h) fun aa g h => ?_
      refine upon_enter (f := 22) (args := #[.slice none 0 0]) (by simp [go_sem]) rfl ?_
      exact (mx_valid _ [] _ Lx.nil).mono fun e w' ⟨he, hB⟩ => ⟨_, he, hB, congrArg Value.bool (by decide)⟩
    · refine ob_gtrue [75] 2 true 74 rfl rfl rfl rfl (fun v w h => h) fun aa g h => ?_
      obtain ⟨_, r0, rfl⟩ := seen_in rfl h.1
      have e0 := getD_of r0
      exact upon_value (v := .bool true) (by simp [go_sem, e0, r0]) (Below.refl _ _) rfl
    · refine ob_plain [74, 76] rfl rfl fun aa g h => ?_
      obtain ⟨_, r0, rfl⟩ := seen_in rfl h.1
      have e0 := getD_of r0
      obtain ⟨_, r1, rfl⟩ := seen_in rfl h.2.1
      have e1 := getD_of r1
      exact upon_value (v := .bool true) (by simp [go_sem, e0, r0, e1, r1]) (Below.refl _ _) rfl
    · refine ob_plain [77] rfl rfl fun aa g h => ?_
      obtain ⟨_, r0, rfl⟩ := seen_in rfl h.1
      have e0 := getD_of r0
      exact upon_value (v := .bool true) (by simp [go_sem, e0, r0]) (Below.refl _ _) rfl
    · refine ob_gtrue [2] 6 true 78 rfl rfl rfl rfl (fun v w h => h) fun aa g h => ?_
      have r0 := seen_out (v := .pointer (some ⟨g3.w.heap.size, 0, none⟩)) rfl rfl h.1
      have e0 := getD_of r0
      exact upon_value (v := .agg #[.int .i64 65536, .int .i64 65536]) (by simp [go_sem, e0, r0, fone0 g, fone1 g]) (Below.refl _ _) rfl
    · refine ob_gtrue [2] 6 true 78 rfl rfl rfl rfl (fun v w h => h) fun aa g h => ?_
      have r0 := seen_out (v := .pointer (some ⟨g3.w.heap.size, 0, none⟩)) rfl rfl h.1
      have e0 := getD_of r0
      exact upon_value (v := .agg #[.int .i64 65536, .int .i64 65536]) (by simp [go_sem, e0, r0, fone0 g, fone1 g]) (Below.refl _ _) rfl
    · refine ob_gtrue [79, 80] 6 true 78 rfl rfl rfl rfl (fun v w h => h) fun aa g h => ?_
      obtain ⟨_, r0, rfl⟩ := seen_in rfl h.1
      have e0 := getD_of r0
      obtain ⟨_, r1, rfl⟩ := seen_in rfl h.2.1
      have e1 := getD_of r1
      exact upon_value (v := .slice (some ⟨g.w.heap.size, 0, none⟩) 2 2) (w1 := g.w.alloc (.cells #[.int .i64 65536, .int .i64 65536, .int .i64 65536, .int .i64 65536] 38)) (by simp [go_sem, e0, r0, e1, r1]) ((Below.refl _ _).alloc (Nat.le_refl _) _) (bx_lit2 _ 65536 65536 65536 65536)
    · refine ob_gtrue [81] 6 true 78 rfl rfl rfl rfl (fun v w h => h) fun aa g h => ?_
      obtain ⟨v0, r0, p0⟩ := seen_in rfl h.1
      have e0 := getD_of r0
      obtain ⟨q0, d0, rfl⟩ := p0.shape (n := 2) rfl
      exact upon_value (v := .slice (some ⟨g.w.heap.size, 0, none⟩) 1 1) (w1 := g.w.alloc (.cells #[.slice q0 2 d0] 40)) (by simp [go_sem, e0, r0]) ((Below.refl _ _).alloc (Nat.le_refl _) _) (mx_lit1 p0)
    · refine ob_gtrue [82] 6 true 78 rfl rfl rfl rfl (fun v w h => h) fun aa g h => ?_
      obtain ⟨v0, r0, p0⟩ := seen_in rfl h.1
      have e0 := getD_of r0
      refine upon_enter (f := 22) (args := #[v0]) (by simp [go_sem, e0, r0]) rfl ?_
      exact (mx_valid _ [[(65536, 65536), (65536, 65536)]] _ (p0)).mono fun e w' ⟨he, hB⟩ => ⟨_, he, hB, congrArg Value.bool (by decide)⟩
    · refine ob_gtrue [83] 6 true 78 rfl rfl rfl rfl (fun v w h => h) fun aa g h => ?_
      obtain ⟨_, r0, rfl⟩ := seen_in rfl h.1
      have e0 := getD_of r0
      exact upon_value (v := .bool true) (by simp [go_sem, e0, r0]) (Below.refl _ _) rfl
    · refine ob_plain [78, 84] rfl rfl fun aa g h => ?_
      obtain ⟨_, r0, rfl⟩ := seen_in rfl h.1
      have e0 := getD_of r0
      obtain ⟨_, r1, rfl⟩ := seen_in rfl h.2.1
      have e1 := getD_of r1
      exact upon_value (v := .bool true) (by simp [go_sem, e0, r0, e1, r1]) (Below.refl _ _) rfl
    · refine ob_plain [85] rfl rfl fun aa g h => ?_
      obtain ⟨_, r0, rfl⟩ := seen_in rfl h.1
      have e0 := getD_of r0
      exact upon_value (v := .bool true) (by simp [go_sem, e0, r0]) (Below.refl _ _) rfl
    · refine ob_gtrue [] 14 true 86 rfl rfl rfl rfl (fun v w h => h) fun aa g h => ?_
      exact upon_value (v := .agg #[.int .i64 2, .int .i64 1]) (by simp [go_sem]) (Below.refl _ _) rfl
    · refine ob_gtrue [87] 14 true 86 rfl rfl rfl rfl (fun v w h => h) fun aa g h => ?_
      obtain ⟨_, r0, rfl⟩ := seen_in rfl h.1
      have e0 := getD_of r0
      exact upon_value (v := .slice (some ⟨g.w.heap.size, 0, none⟩) 1 1) (w1 := g.w.alloc (.cells #[.int .i64 2, .int .i64 1] 38)) (by simp [go_sem, e0, r0]) ((Below.refl _ _).alloc (Nat.le_refl _) _) (bx_lit1 _ 2 1)
    · refine ob_gtrue [88] 14 true 86 rfl rfl rfl rfl (fun v w h => h) fun aa g h => ?_
      obtain ⟨v0, r0, p0⟩ := seen_in rfl h.1
      have e0 := getD_of r0
      obtain ⟨q0, d0, rfl⟩ := p0.shape (n := 1) rfl
      exact upon_value (v := .slice (some ⟨g.w.heap.size, 0, none⟩) 1 1) (w1 := g.w.alloc (.cells #[.slice q0 1 d0] 40)) (by simp [go_sem, e0, r0]) ((Below.refl _ _).alloc (Nat.le_refl _) _) (mx_lit1 p0)
    · refine ob_gtrue [89] 14 true 86 rfl rfl rfl rfl (fun v w h => h) fun aa g h => ?_
      obtain ⟨v0, r0, p0⟩ := seen_in rfl h.1
      have e0 := getD_of r0
      refine upon_enter (f := 22) (args := #[v0]) (by simp [go_sem, e0, r0]) rfl ?_
      exact (mx_valid _ [[(2, 1)]] _ (p0)).mono fun e w' ⟨he, hB⟩ => ⟨_, he, hB, congrArg Value.bool (by decide)⟩
    · refine ob_gtrue [90] 14 true 86 rfl rfl rfl rfl (fun v w h => h) fun aa g h => ?_
      obtain ⟨_, r0, rfl⟩ := seen_in rfl h.1
      have e0 := getD_of r0
      exact upon_value (v := .bool true) (by simp [go_sem, e0, r0]) (Below.refl _ _) rfl
    · refine ob_plain [86, 91] rfl rfl fun aa g h => ?_
      obtain ⟨_, r0, rfl⟩ := seen_in rfl h.1
      have e0 := getD_of r0
      obtain ⟨_, r1, rfl⟩ := seen_in rfl h.2.1
      have e1 := getD_of r1
      exact upon_value (v := .bool true) (by simp [go_sem, e0, r0, e1, r1]) (Below.refl _ _) rfl
    · refine ob_plain [92] rfl rfl fun aa g h => ?_
      obtain ⟨_, r0, rfl⟩ := seen_in rfl h.1
      have e0 := getD_of r0
      exact upon_value (v := .bool true) (by simp [go_sem, e0, r0]) (Below.refl _ _) rfl
    · refine ob_gtrue [3] 21 true 93 rfl rfl rfl rfl (fun v w h => h) fun aa g h => ?_
      have r0 := seen_out (v := v3) rfl rfl h.1
      have e0 := getD_of r0
      exact upon_value (v := v3) (by simp [go_sem, e0, r0]) (Below.refl _ _) (h3.grow g.h)
    · refine ob_gtrue [] 21 true 93 rfl rfl rfl rfl (fun v w h => h) fun aa g h => ?_
      refine upon_enter (f := 16) (args := #[.int .i64 196608]) (by simp [go_sem]) rfl ?_
      exact (r2point 196608 _).mono fun e w' ⟨he, hB⟩ => ⟨_, he, hB, rfl⟩
    · refine ob_gtrue [2] 21 true 93 rfl rfl rfl rfl (fun v w h => h) fun aa g h => ?_
      have r0 := seen_out (v := .pointer (some ⟨g3.w.heap.size, 0, none⟩)) rfl rfl h.1
      have e0 := getD_of r0
      exact upon_value (v := .agg #[.int .i64 65536, .int .i64 65536]) (by simp [go_sem, e0, r0, fone0 g, fone1 g]) (Below.refl _ _) rfl
    · refine ob_gtrue [95, 96] 21 true 93 rfl rfl rfl rfl (fun v w h => h) fun aa g h => ?_
      obtain ⟨_, r0, rfl⟩ := seen_in rfl h.1
      have e0 := getD_of r0
      obtain ⟨_, r1, rfl⟩ := seen_in rfl h.2.1
      have e1 := getD_of r1
      exact upon_value (v := .slice (some ⟨g.w.heap.size, 0, none⟩) 2 2) (w1 := g.w.alloc (.cells #[.int .i64 196608, .int .i64 196608, .int .i64 65536, .int .i64 65536] 38)) (by simp [go_sem, e0, r0, e1, r1]) ((Below.refl _ _).alloc (Nat.le_refl _) _) (bx_lit2 _ 196608 196608 65536 65536)
    · refine ob_gtrue [94, 97] 21 true 93 rfl rfl rfl rfl (fun v w h => h) fun aa g h => ?_
      obtain ⟨v0, r0, p0⟩ := seen_in rfl h.1
      have e0 := getD_of r0
      obtain ⟨v1, r1, p1⟩ := seen_in rfl h.2.1
      have e1 := getD_of r1
      refine upon_enter (f := 23) (args := #[v0, v1]) (by simp [go_sem, e0, r0, e1, r1]) rfl ?_
      exact (r3same _ _ [(196608, 196608), (65536, 65536)] [(196608, 196608), (65536, 65536)] _ (p0) (p1)).mono fun e w' ⟨he, hB⟩ => ⟨_, he, hB, congrArg Value.bool (by decide)⟩
    · refine ob_plain [93, 98] rfl rfl fun aa g h => ?_
      obtain ⟨_, r0, rfl⟩ := seen_in rfl h.1
      have e0 := getD_of r0
      obtain ⟨_, r1, rfl⟩ := seen_in rfl h.2.1
      have e1 := getD_of r1
      exact upon_value (v := .bool true) (by simp [go_sem, e0, r0, e1, r1]) (Below.refl _ _) rfl
    · refine ob_plain [99] rfl rfl fun aa g h => ?_
      obtain ⟨_, r0, rfl⟩ := seen_in rfl h.1
      have e0 := getD_of r0
      exact upon_value (v := .bool true) (by simp [go_sem, e0, r0]) (Below.refl _ _) rfl
    · refine ob_gtrue [4] 28 true 100 rfl rfl rfl rfl (fun v w h => h) fun aa g h => ?_
      have r0 := seen_out (v := .slice (some ⟨b4, o4, none⟩) 2 c4) rfl rfl h.1
      have e0 := getD_of r0
      exact upon_value (v := .slice (some ⟨b4, o4, none⟩) 2 c4) (by simp [go_sem, e0, r0]) (Below.refl _ _) rfl
    · refine ob_gtrue [101] 28 true 100 rfl rfl rfl rfl (fun v w h => h) fun aa g h => ?_
      obtain ⟨_, r0, rfl⟩ := seen_in rfl h.1
      have e0 := getD_of r0
      exact upon_value (v := .pointer (some ⟨b4, o4, none⟩)) (by simp [go_sem, e0, r0]) (Below.refl _ _) rfl
    · refine ob_gtrue [102] 28 true 100 rfl rfl rfl rfl (fun v w h => h) fun aa g h => ?_
      obtain ⟨_, r0, rfl⟩ := seen_in rfl h.1
      have e0 := getD_of r0
      exact upon_value (v := .slice (some ⟨b40, o40, none⟩) 2 c40) (by simp [go_sem, e0, r0, f40 g]) (Below.refl _ _) rfl
    · refine ob_gtrue [103] 28 true 100 rfl rfl rfl rfl (fun v w h => h) fun aa g h => ?_
      obtain ⟨_, r0, rfl⟩ := seen_in rfl h.1
      have e0 := getD_of r0
      exact upon_value (v := .pointer (some ⟨b40, o40, none⟩)) (by simp [go_sem, e0, r0]) (Below.refl _ _) rfl
    · refine ob_gtrue [104] 28 true 100 rfl rfl rfl rfl (fun v w h => h) fun aa g h => ?_
      obtain ⟨_, r0, rfl⟩ := seen_in rfl h.1
      have e0 := getD_of r0
      exact upon_value (v := .int .i64 65536) (by simp [go_sem, e0, r0, n400 g]) (Below.refl _ _) rfl
    · refine ob_gtrue [105] 28 true 100 rfl rfl rfl rfl (fun v w h => h) fun aa g h => ?_
      obtain ⟨_, r0, rfl⟩ := seen_in rfl h.1
      have e0 := getD_of r0
      exact upon_value (v := .bool true) (by simp [go_sem, e0, r0]) (Below.refl _ _) rfl
    · refine ob_plain [100, 106] rfl rfl fun aa g h => ?_
      obtain ⟨_, r0, rfl⟩ := seen_in rfl h.1
      have e0 := getD_of r0
      obtain ⟨_, r1, rfl⟩ := seen_in rfl h.2.1
      have e1 := getD_of r1
      exact upon_value (v := .bool true) (by simp [go_sem, e0, r0, e1, r1]) (Below.refl _ _) rfl
    · refine ob_plain [107] rfl rfl fun aa g h => ?_
      obtain ⟨_, r0, rfl⟩ := seen_in rfl h.1
      have e0 := getD_of r0
      exact upon_value (v := .bool true) (by simp [go_sem, e0, r0]) (Below.refl _ _) rfl
    · refine ob_gtrue [4] 36 true 108 rfl rfl rfl rfl (fun v w h => h) fun aa g h => ?_
      have r0 := seen_out (v := .slice (some ⟨b4, o4, none⟩) 2 c4) rfl rfl h.1
      have e0 := getD_of r0
      exact upon_value (v := .slice (some ⟨b4, o4, none⟩) 2 c4) (by simp [go_sem, e0, r0]) (Below.refl _ _) rfl
    · refine ob_gtrue [109] 36 true 108 rfl rfl rfl rfl (fun v w h => h) fun aa g h => ?_
      obtain ⟨_, r0, rfl⟩ := seen_in rfl h.1
      have e0 := getD_of r0
      exact upon_value (v := .pointer (some ⟨b4, o4, none⟩)) (by simp [go_sem, e0, r0]) (Below.refl _ _) rfl
    · refine ob_gtrue [110] 36 true 108 rfl rfl rfl rfl (fun v w h => h) fun aa g h => ?_
      obtain ⟨_, r0, rfl⟩ := seen_in rfl h.1
      have e0 := getD_of r0
      exact upon_value (v := .slice (some ⟨b40, o40, none⟩) 2 c40) (by simp [go_sem, e0, r0, f40 g]) (Below.refl _ _) rfl
    · refine ob_gtrue [111] 36 true 108 rfl rfl rfl rfl (fun v w h => h) fun aa g h => ?_
      obtain ⟨_, r0, rfl⟩ := seen_in rfl h.1
      have e0 := getD_of r0
      exact upon_value (v := .pointer (some ⟨b40, o40 + 1, none⟩)) (by simp [go_sem, e0, r0]) (Below.refl _ _) rfl
    · refine ob_gtrue [112] 36 true 108 rfl rfl rfl rfl (fun v w h => h) fun aa g h => ?_
      obtain ⟨_, r0, rfl⟩ := seen_in rfl h.1
      have e0 := getD_of r0
      exact upon_value (v := .int .i64 0) (by simp [go_sem, e0, r0, n401 g]) (Below.refl _ _) rfl
    · refine ob_gtrue [113] 36 true 108 rfl rfl rfl rfl (fun v w h => h) fun aa g h => ?_
      obtain ⟨_, r0, rfl⟩ := seen_in rfl h.1
      have e0 := getD_of r0
      exact upon_value (v := .bool true) (by simp [go_sem, e0, r0]) (Below.refl _ _) rfl
    · refine ob_plain [108, 114] rfl rfl fun aa g h => ?_
      obtain ⟨_, r0, rfl⟩ := seen_in rfl h.1
      have e0 := getD_of r0
      obtain ⟨_, r1, rfl⟩ := seen_in rfl h.2.1
      have e1 := getD_of r1
      exact upon_value (v := .bool true) (by simp [go_sem, e0, r0, e1, r1]) (Below.refl _ _) rfl
    · refine ob_plain [115] rfl rfl fun aa g h => ?_
      obtain ⟨_, r0, rfl⟩ := seen_in rfl h.1
      have e0 := getD_of r0
      exact upon_value (v := .bool true) (by simp [go_sem, e0, r0]) (Below.refl _ _) rfl
    · refine ob_gtrue [4] 44 true 116 rfl rfl rfl rfl (fun v w h => h) fun aa g h => ?_
      have r0 := seen_out (v := .slice (some ⟨b4, o4, none⟩) 2 c4) rfl rfl h.1
      have e0 := getD_of r0
      exact upon_value (v := .slice (some ⟨b4, o4, none⟩) 2 c4) (by simp [go_sem, e0, r0]) (Below.refl _ _) rfl
    · refine ob_gtrue [117] 44 true 116 rfl rfl rfl rfl (fun v w h => h) fun aa g h => ?_
      obtain ⟨_, r0, rfl⟩ := seen_in rfl h.1
      have e0 := getD_of r0
      exact upon_value (v := .pointer (some ⟨b4, o4 + 1, none⟩)) (by simp [go_sem, e0, r0]) (Below.refl _ _) rfl
    · refine ob_gtrue [118] 44 true 116 rfl rfl rfl rfl (fun v w h => h) fun aa g h => ?_
      obtain ⟨_, r0, rfl⟩ := seen_in rfl h.1
      have e0 := getD_of r0
      exact upon_value (v := .slice (some ⟨b41, o41, none⟩) 2 c41) (by simp [go_sem, e0, r0, f41 g]) (Below.refl _ _) rfl
    · refine ob_gtrue [119] 44 true 116 rfl rfl rfl rfl (fun v w h => h) fun aa g h => ?_
      obtain ⟨_, r0, rfl⟩ := seen_in rfl h.1
      have e0 := getD_of r0
      exact upon_value (v := .pointer (some ⟨b41, o41, none⟩)) (by simp [go_sem, e0, r0]) (Below.refl _ _) rfl
    · refine ob_gtrue [120] 44 true 116 rfl rfl rfl rfl (fun v w h => h) fun aa g h => ?_
      obtain ⟨_, r0, rfl⟩ := seen_in rfl h.1
      have e0 := getD_of r0
      exact upon_value (v := .int .i64 0) (by simp [go_sem, e0, r0, n410 g]) (Below.refl _ _) rfl
    · refine ob_gtrue [121] 44 true 116 rfl rfl rfl rfl (fun v w h => h) fun aa g h => ?_
      obtain ⟨_, r0, rfl⟩ := seen_in rfl h.1
      have e0 := getD_of r0
      exact upon_value (v := .bool true) (by simp [go_sem, e0, r0]) (Below.refl _ _) rfl
    · refine ob_plain [116, 122] rfl rfl fun aa g h => ?_
      obtain ⟨_, r0, rfl⟩ := seen_in rfl h.1
      have e0 := getD_of r0
      obtain ⟨_, r1, rfl⟩ := seen_in rfl h.2.1
      have e1 := getD_of r1
      exact upon_value (v := .bool true) (by simp [go_sem, e0, r0, e1, r1]) (Below.refl _ _) rfl
    · refine ob_plain [123] rfl rfl fun aa g h => ?_
      obtain ⟨_, r0, rfl⟩ := seen_in rfl h.1
      have e0 := getD_of r0
      exact upon_value (v := .bool true) (by simp [go_sem, e0, r0]) (Below.refl _ _) rfl
    · refine ob_gtrue [4] 52 true 124 rfl rfl rfl rfl (fun v w h => h) fun aa g h => ?_
      have r0 := seen_out (v := .slice (some ⟨b4, o4, none⟩) 2 c4) rfl rfl h.1
      have e0 := getD_of r0
      exact upon_value (v := .slice (some ⟨b4, o4, none⟩) 2 c4) (by simp [go_sem, e0, r0]) (Below.refl _ _) rfl
    · refine ob_gtrue [125] 52 true 124 rfl rfl rfl rfl (fun v w h => h) fun aa g h => ?_
      obtain ⟨_, r0, rfl⟩ := seen_in rfl h.1
      have e0 := getD_of r0
      exact upon_value (v := .pointer (some ⟨b4, o4 + 1, none⟩)) (by simp [go_sem, e0, r0]) (Below.refl _ _) rfl
    · refine ob_gtrue [126] 52 true 124 rfl rfl rfl rfl (fun v w h => h) fun aa g h => ?_
      obtain ⟨_, r0, rfl⟩ := seen_in rfl h.1
      have e0 := getD_of r0
      exact upon_value (v := .slice (some ⟨b41, o41, none⟩) 2 c41) (by simp [go_sem, e0, r0, f41 g]) (Below.refl _ _) rfl
    · refine ob_gtrue [127] 52 true 124 rfl rfl rfl rfl (fun v w h => h) fun aa g h => ?_
      obtain ⟨_, r0, rfl⟩ := seen_in rfl h.1
      have e0 := getD_of r0
      exact upon_value (v := .pointer (some ⟨b41, o41 + 1, none⟩)) (by simp [go_sem, e0, r0]) (Below.refl _ _) rfl
    · refine ob_gtrue [128] 52 true 124 rfl rfl rfl rfl (fun v w h => h) fun aa g h => ?_
      obtain ⟨_, r0, rfl⟩ := seen_in rfl h.1
      have e0 := getD_of r0
      exact upon_value (v := .int .i64 65536) (by simp [go_sem, e0, r0, n411 g]) (Below.refl _ _) rfl
    · refine ob_gtrue [129] 52 true 124 rfl rfl rfl rfl (fun v w h => h) fun aa g h => ?_
      obtain ⟨_, r0, rfl⟩ := seen_in rfl h.1
      have e0 := getD_of r0
      exact upon_value (v := .bool true) (by simp [go_sem, e0, r0]) (Below.refl _ _) rfl
    · refine ob_plain [124, 130] rfl rfl fun aa g h => ?_
      obtain ⟨_, r0, rfl⟩ := seen_in rfl h.1
      have e0 := getD_of r0
      obtain ⟨_, r1, rfl⟩ := seen_in rfl h.2.1
      have e1 := getD_of r1
      exact upon_value (v := .bool true) (by simp [go_sem, e0, r0, e1, r1]) (Below.refl _ _) rfl
    · refine ob_plain [131] rfl rfl fun aa g h => ?_
      obtain ⟨_, r0, rfl⟩ := seen_in rfl h.1
      have e0 := getD_of r0
      exact upon_value (v := .bool true) (by simp [go_sem, e0, r0]) (Below.refl _ _) rfl
    · refine ob_gtrue [5] 60 true 132 rfl rfl rfl rfl (fun v w h => h) fun aa g h => ?_
      have r0 := seen_out (v := v5) rfl rfl h.1
      have e0 := getD_of r0
      exact upon_value (v := v5) (by simp [go_sem, e0, r0]) (Below.refl _ _) (h5.grow grows_bx g.h)
    · refine ob_gtrue [] 60 true 132 rfl rfl rfl rfl (fun v w h => h) fun aa g h => ?_
      refine upon_enter (f := 16) (args := #[.int .i64 32768]) (by simp [go_sem]) rfl ?_
      exact (r2point 32768 _).mono fun e w' ⟨he, hB⟩ => ⟨_, he, hB, rfl⟩
    · refine ob_gtrue [] 60 true 132 rfl rfl rfl rfl (fun v w h => h) fun aa g h => ?_
      exact upon_value (v := .agg #[.int .i64 0, .int .i64 0]) (by simp [go_sem]) (Below.refl _ _) rfl
    · refine ob_gtrue [134, 135] 60 true 132 rfl rfl rfl rfl (fun v w h => h) fun aa g h => ?_
      obtain ⟨_, r0, rfl⟩ := seen_in rfl h.1
      have e0 := getD_of r0
      obtain ⟨_, r1, rfl⟩ := seen_in rfl h.2.1
      have e1 := getD_of r1
      exact upon_value (v := .slice (some ⟨g.w.heap.size, 0, none⟩) 2 2) (w1 := g.w.alloc (.cells #[.int .i64 32768, .int .i64 32768, .int .i64 0, .int .i64 0] 38)) (by simp [go_sem, e0, r0, e1, r1]) ((Below.refl _ _).alloc (Nat.le_refl _) _) (bx_lit2 _ 32768 32768 0 0)
    · refine ob_gtrue [] 60 true 132 rfl rfl rfl rfl (fun v w h => h) fun aa g h => ?_
      exact upon_value (v := .agg #[.int .i64 0, .int .i64 0]) (by simp [go_sem]) (Below.refl _ _) rfl
    · refine ob_gtrue [] 60 true 132 rfl rfl rfl rfl (fun v w h => h) fun aa g h => ?_
      refine upon_enter (f := 16) (args := #[.int .i64 16384]) (by simp [go_sem]) rfl ?_
      exact (r2point 16384 _).mono fun e w' ⟨he, hB⟩ => ⟨_, he, hB, rfl⟩
    · refine ob_gtrue [137, 138] 60 true 132 rfl rfl rfl rfl (fun v w h => h) fun aa g h => ?_
      obtain ⟨_, r0, rfl⟩ := seen_in rfl h.1
      have e0 := getD_of r0
      obtain ⟨_, r1, rfl⟩ := seen_in rfl h.2.1
      have e1 := getD_of r1
      exact upon_value (v := .slice (some ⟨g.w.heap.size, 0, none⟩) 2 2) (w1 := g.w.alloc (.cells #[.int .i64 0, .int .i64 0, .int .i64 16384, .int .i64 16384] 38)) (by simp [go_sem, e0, r0, e1, r1]) ((Below.refl _ _).alloc (Nat.le_refl _) _) (bx_lit2 _ 0 0 16384 16384)
    · refine ob_gtrue [136, 139] 60 true 132 rfl rfl rfl rfl (fun v w h => h) fun aa g h => ?_
      obtain ⟨v0, r0, p0⟩ := seen_in rfl h.1
      have e0 := getD_of r0
      obtain ⟨v1, r1, p1⟩ := seen_in rfl h.2.1
      have e1 := getD_of r1
      obtain ⟨q0, d0, rfl⟩ := p0.shape (n := 2) rfl
      obtain ⟨q1, d1, rfl⟩ := p1.shape (n := 2) rfl
      exact upon_value (v := .slice (some ⟨g.w.heap.size, 0, none⟩) 2 2) (w1 := g.w.alloc (.cells #[.slice q0 2 d0, .slice q1 2 d1] 40)) (by simp [go_sem, e0, r0, e1, r1]) ((Below.refl _ _).alloc (Nat.le_refl _) _) (mx_two p0 p1)
    · refine ob_gtrue [133, 140] 60 true 132 rfl rfl rfl rfl (fun v w h => h) fun aa g h => ?_
      obtain ⟨v0, r0, p0⟩ := seen_in rfl h.1
      have e0 := getD_of r0
      obtain ⟨v1, r1, p1⟩ := seen_in rfl h.2.1
      have e1 := getD_of r1
      refine upon_enter (f := 24) (args := #[v0, v1]) (by simp [go_sem, e0, r0, e1, r1]) rfl ?_
      exact (r4same _ _ [[(32768, 32768), (0, 0)], [(0, 0), (16384, 16384)]] [[(32768, 32768), (0, 0)], [(0, 0), (16384, 16384)]] _ (p0) (p1)).mono fun e w' ⟨he, hB⟩ => ⟨_, he, hB, congrArg Value.bool (by decide)⟩
    · refine ob_plain [132, 141] rfl rfl fun aa g h => ?_
      obtain ⟨_, r0, rfl⟩ := seen_in rfl h.1
      have e0 := getD_of r0
      obtain ⟨_, r1, rfl⟩ := seen_in rfl h.2.1
      have e1 := getD_of r1
      exact upon_value (v := .bool true) (by simp [go_sem, e0, r0, e1, r1]) (Below.refl _ _) rfl
    · refine ob_plain [142] rfl rfl fun aa g h => ?_
      obtain ⟨_, r0, rfl⟩ := seen_in rfl h.1
      have e0 := getD_of r0
      exact upon_value (v := .bool true) (by simp [go_sem, e0, r0]) (Below.refl _ _) rfl
    · refine ob_gtrue [6] 71 true 143 rfl rfl rfl rfl (fun v w h => h) fun aa g h => ?_
      have r0 := seen_out (v := .bool true) rfl rfl h.1
      have e0 := getD_of r0
      exact upon_value (v := .bool true) (by simp [go_sem, e0, r0]) (Below.refl _ _) rfl
    · refine ob_plain [143, 144] rfl rfl fun aa g h => ?_
      obtain ⟨_, r0, rfl⟩ := seen_in rfl h.1
      have e0 := getD_of r0
      obtain ⟨_, r1, rfl⟩ := seen_in rfl h.2.1
      have e1 := getD_of r1
      exact upon_value (v := .bool true) (by simp [go_sem, e0, r0, e1, r1]) (Below.refl _ _) rfl
    · refine ob_plain [145] rfl rfl fun aa g h => ?_
      obtain ⟨_, r0, rfl⟩ := seen_in rfl h.1
      have e0 := getD_of r0
      exact upon_value (v := .bool true) (by simp [go_sem, e0, r0]) (Below.refl _ _) rfl
    · refine ob_gtrue [8] 74 true 146 rfl rfl rfl rfl (fun v w h => h) fun aa g h => ?_
      have r0 := seen_out (v := .bool false) rfl rfl h.1
      have e0 := getD_of r0
      exact upon_value (v := .bool false) (by simp [go_sem, e0, r0]) (Below.refl _ _) rfl
    · refine ob_gtrue [147] 74 true 146 rfl rfl rfl rfl (fun v w h => h) fun aa g h => ?_
      obtain ⟨_, r0, rfl⟩ := seen_in rfl h.1
      have e0 := getD_of r0
      exact upon_value (v := .bool true) (by simp [go_sem, e0, r0]) (Below.refl _ _) rfl
    · refine ob_plain [146, 148] rfl rfl fun aa g h => ?_
      obtain ⟨_, r0, rfl⟩ := seen_in rfl h.1
      have e0 := getD_of r0
      obtain ⟨_, r1, rfl⟩ := seen_in rfl h.2.1
      have e1 := getD_of r1
      exact upon_value (v := .bool true) (by simp [go_sem, e0, r0, e1, r1]) (Below.refl _ _) rfl
    · refine ob_plain [149] rfl rfl fun aa g h => ?_
      obtain ⟨_, r0, rfl⟩ := seen_in rfl h.1
      have e0 := getD_of r0
      exact upon_value (v := .bool true) (by simp [go_sem, e0, r0]) (Below.refl _ _) rfl
    · refine ob_gtrue [9] 78 true 150 rfl rfl rfl rfl (fun v w h => h) fun aa g h => ?_
      have r0 := seen_out (v := v9) rfl rfl h.1
      have e0 := getD_of r0
      exact upon_value (v := v9) (by simp [go_sem, e0, r0]) (Below.refl _ _) (h9.grow grows_bx g.h)
    · refine ob_gtrue [] 78 true 150 rfl rfl rfl rfl (fun v w h => h) fun aa g h => ?_
      refine upon_enter (f := 15) (args := #[.int .i64 1, .int .i64 4, .int .i64 0, .int .i64 1]) (by simp [go_sem]) rfl ?_
      exact (square4 1 4 0 1 _ (by decide) (by decide) (by decide) (by decide)).mono fun e w' ⟨u, he, hu, hB⟩ => ⟨u, he, hB, hu⟩
    · refine ob_gtrue [152] 78 true 150 rfl rfl rfl rfl (fun v w h => h) fun aa g h => ?_
      obtain ⟨v0, r0, p0⟩ := seen_in rfl h.1
      have e0 := getD_of r0
      refine upon_enter (f := 14) (args := #[v0]) (by simp [go_sem, e0, r0]) rfl ?_
      exact (from4 _ 65536 262144 0 65536 (65536, 65536) (262144, 262144) (0, 0) (65536, 65536) _ (p0) (by decide)).mono fun e w' ⟨u, he, hu, hB⟩ => ⟨u, he, hB, hu⟩
    · refine ob_gtrue [151, 153] 78 true 150 rfl rfl rfl rfl (fun v w h => h) fun aa g h => ?_
      obtain ⟨v0, r0, p0⟩ := seen_in rfl h.1
      have e0 := getD_of r0
      obtain ⟨v1, r1, p1⟩ := seen_in rfl h.2.1
      have e1 := getD_of r1
      refine upon_enter (f := 24) (args := #[v0, v1]) (by simp [go_sem, e0, r0, e1, r1]) rfl ?_
      exact (r4same _ _ [[(65536, 65536), (262144, 262144)], [(0, 0), (65536, 65536)]] [[(65536, 65536), (262144, 262144)], [(0, 0), (65536, 65536)]] _ (p0) (p1)).mono fun e w' ⟨he, hB⟩ => ⟨_, he, hB, congrArg Value.bool (by decide)⟩
    · refine ob_plain [150, 154] rfl rfl fun aa g h => ?_
      obtain ⟨_, r0, rfl⟩ := seen_in rfl h.1
      have e0 := getD_of r0
      obtain ⟨_, r1, rfl⟩ := seen_in rfl h.2.1
      have e1 := getD_of r1
      exact upon_value (v := .bool true) (by simp [go_sem, e0, r0, e1, r1]) (Below.refl _ _) rfl
    · refine ob_plain [155] rfl rfl fun aa g h => ?_
      obtain ⟨_, r0, rfl⟩ := seen_in rfl h.1
      have e0 := getD_of r0
      exact upon_value (v := .bool true) (by simp [go_sem, e0, r0]) (Below.refl _ _) rfl
    · refine ob_gtrue [10] 84 true 156 rfl rfl rfl rfl (fun v w h => h) fun aa g h => ?_
      have r0 := seen_out (v := v10) rfl rfl h.1
      have e0 := getD_of r0
      exact upon_value (v := v10) (by simp [go_sem, e0, r0]) (Below.refl _ _) (h10.grow grows_bx g.h)
    · refine ob_gtrue [] 84 true 156 rfl rfl rfl rfl (fun v w h => h) fun aa g h => ?_
      refine upon_enter (f := 15) (args := #[.int .i64 1, .int .i64 0, .int .i64 2, .int .i64 1]) (by simp [go_sem]) rfl ?_
      exact (square4 1 0 2 1 _ (by decide) (by decide) (by decide) (by decide)).mono fun e w' ⟨u, he, hu, hB⟩ => ⟨u, he, hB, hu⟩
    · refine ob_gtrue [158] 84 true 156 rfl rfl rfl rfl (fun v w h => h) fun aa g h => ?_
      obtain ⟨v0, r0, p0⟩ := seen_in rfl h.1
      have e0 := getD_of r0
      refine upon_enter (f := 14) (args := #[v0]) (by simp [go_sem, e0, r0]) rfl ?_
      exact (from4 _ 65536 0 131072 65536 (65536, 65536) (0, 0) (131072, 131072) (65536, 65536) _ (p0) (by decide)).mono fun e w' ⟨u, he, hu, hB⟩ => ⟨u, he, hB, hu⟩
    · refine ob_gtrue [157, 159] 84 true 156 rfl rfl rfl rfl (fun v w h => h) fun aa g h => ?_
      obtain ⟨v0, r0, p0⟩ := seen_in rfl h.1
      have e0 := getD_of r0
      obtain ⟨v1, r1, p1⟩ := seen_in rfl h.2.1
      have e1 := getD_of r1
      refine upon_enter (f := 24) (args := #[v0, v1]) (by simp [go_sem, e0, r0, e1, r1]) rfl ?_
      exact (r4same _ _ [[(65536, 65536), (0, 0)], [(131072, 131072), (65536, 65536)]] [[(65536, 65536), (0, 0)], [(131072, 131072), (65536, 65536)]] _ (p0) (p1)).mono fun e w' ⟨he, hB⟩ => ⟨_, he, hB, congrArg Value.bool (by decide)⟩
    · refine ob_plain [156, 160] rfl rfl fun aa g h => ?_
      obtain ⟨_, r0, rfl⟩ := seen_in rfl h.1
      have e0 := getD_of r0
      obtain ⟨_, r1, rfl⟩ := seen_in rfl h.2.1
      have e1 := getD_of r1
      exact upon_value (v := .bool true) (by simp [go_sem, e0, r0, e1, r1]) (Below.refl _ _) rfl
    · refine ob_plain [161] rfl rfl fun aa g h => ?_
      obtain ⟨_, r0, rfl⟩ := seen_in rfl h.1
      have e0 := getD_of r0
      exact upon_value (v := .bool true) (by simp [go_sem, e0, r0]) (Below.refl _ _) rfl
    · refine ob_gtrue [11] 90 true 162 rfl rfl rfl rfl (fun v w h => h) fun aa g h => ?_
      have r0 := seen_out (v := .slice (some ⟨b11, o11, none⟩) 1 c11) rfl rfl h.1
      have e0 := getD_of r0
      exact upon_value (v := .slice (some ⟨b11, o11, none⟩) 1 c11) (by simp [go_sem, e0, r0]) (Below.refl _ _) rfl
    · refine ob_gtrue [163] 90 true 162 rfl rfl rfl rfl (fun v w h => h) fun aa g h => ?_
      obtain ⟨_, r0, rfl⟩ := seen_in rfl h.1
      have e0 := getD_of r0
      exact upon_value (v := .pointer (some ⟨b11, o11, none⟩)) (by simp [go_sem, e0, r0]) (Below.refl _ _) rfl
    · refine ob_gtrue [164] 90 true 162 rfl rfl rfl rfl (fun v w h => h) fun aa g h => ?_
      obtain ⟨_, r0, rfl⟩ := seen_in rfl h.1
      have e0 := getD_of r0
      exact upon_value (v := .slice (some ⟨b110, o110, none⟩) 1 c110) (by simp [go_sem, e0, r0, f110 g]) (Below.refl _ _) rfl
    · refine ob_gtrue [165] 90 true 162 rfl rfl rfl rfl (fun v w h => h) fun aa g h => ?_
      obtain ⟨_, r0, rfl⟩ := seen_in rfl h.1
      have e0 := getD_of r0
      exact upon_value (v := .pointer (some ⟨b110, o110, none⟩)) (by simp [go_sem, e0, r0]) (Below.refl _ _) rfl
    · refine ob_gtrue [166] 90 true 162 rfl rfl rfl rfl (fun v w h => h) fun aa g h => ?_
      obtain ⟨_, r0, rfl⟩ := seen_in rfl h.1
      have e0 := getD_of r0
      exact upon_value (v := .int .i64 (-2)) (by simp [go_sem, e0, r0, n110 g]) (Below.refl _ _) rfl
    · refine ob_gtrue [167] 90 true 162 rfl rfl rfl rfl (fun v w h => h) fun aa g h => ?_
      obtain ⟨_, r0, rfl⟩ := seen_in rfl h.1
      have e0 := getD_of r0
      exact upon_value (v := .bool true) (by simp [go_sem, e0, r0]) (Below.refl _ _) rfl
    · refine ob_plain [162, 168] rfl rfl fun aa g h => ?_
      obtain ⟨_, r0, rfl⟩ := seen_in rfl h.1
      have e0 := getD_of r0
      obtain ⟨_, r1, rfl⟩ := seen_in rfl h.2.1
      have e1 := getD_of r1
      exact upon_value (v := .bool true) (by simp [go_sem, e0, r0, e1, r1]) (Below.refl _ _) rfl
    · refine ob_plain [169] rfl rfl fun aa g h => ?_
      obtain ⟨_, r0, rfl⟩ := seen_in rfl h.1
      have e0 := getD_of r0
      exact upon_value (v := .bool true) (by simp [go_sem, e0, r0]) (Below.refl _ _) rfl
    · refine ob_gtrue [] 98 true 170 rfl rfl rfl rfl (fun v w h => h) fun aa g h => ?_
      refine upon_enter (f := 25) (args := #[.int .i64 2]) (by simp [go_sem]) rfl ?_
      exact (mx_ident 2 _ (by decide) (by decide)).mono fun e w' ⟨u, he, hu, hB⟩ => ⟨u, he, hB, hu⟩
    · refine ob_gtrue [] 98 true 170 rfl rfl rfl rfl (fun v w h => h) fun aa g h => ?_
      refine upon_enter (f := 15) (args := #[.int .i64 1, .int .i64 0, .int .i64 0, .int .i64 1]) (by simp [go_sem]) rfl ?_
      exact (square4 1 0 0 1 _ (by decide) (by decide) (by decide) (by decide)).mono fun e w' ⟨u, he, hu, hB⟩ => ⟨u, he, hB, hu⟩
    · refine ob_gtrue [172] 98 true 170 rfl rfl rfl rfl (fun v w h => h) fun aa g h => ?_
      obtain ⟨v0, r0, p0⟩ := seen_in rfl h.1
      have e0 := getD_of r0
      refine upon_enter (f := 14) (args := #[v0]) (by simp [go_sem, e0, r0]) rfl ?_
      exact (from4 _ 65536 0 0 65536 (65536, 65536) (0, 0) (0, 0) (65536, 65536) _ (p0) (by decide)).mono fun e w' ⟨u, he, hu, hB⟩ => ⟨u, he, hB, hu⟩
    · refine ob_gtrue [171, 173] 98 true 170 rfl rfl rfl rfl (fun v w h => h) fun aa g h => ?_
      obtain ⟨v0, r0, p0⟩ := seen_in rfl h.1
      have e0 := getD_of r0
      obtain ⟨v1, r1, p1⟩ := seen_in rfl h.2.1
      have e1 := getD_of r1
      refine upon_enter (f := 24) (args := #[v0, v1]) (by simp [go_sem, e0, r0, e1, r1]) rfl ?_
      exact (r4same _ _ [[(65536, 65536), (0, 0)], [(0, 0), (65536, 65536)]] [[(65536, 65536), (0, 0)], [(0, 0), (65536, 65536)]] _ (p0) (p1)).mono fun e w' ⟨he, hB⟩ => ⟨_, he, hB, congrArg Value.bool (by decide)⟩
    · refine ob_plain [170, 174] rfl rfl fun aa g h => ?_
      obtain ⟨_, r0, rfl⟩ := seen_in rfl h.1
      have e0 := getD_of r0
      obtain ⟨_, r1, rfl⟩ := seen_in rfl h.2.1
      have e1 := getD_of r1
      exact upon_value (v := .bool true) (by simp [go_sem, e0, r0, e1, r1]) (Below.refl _ _) rfl
    · refine ob_plain [175] rfl rfl fun aa g h => ?_
      obtain ⟨_, r0, rfl⟩ := seen_in rfl h.1
      have e0 := getD_of r0
      exact upon_value (v := .bool true) (by simp [go_sem, e0, r0]) (Below.refl _ _) rfl
    · refine ob_gtrue [] 104 true 176 rfl rfl rfl rfl (fun v w h => h) fun aa g h => ?_
      refine upon_enter (f := 25) (args := #[.int .i64 0]) (by simp [go_sem]) rfl ?_
      exact (mx_ident_low 0 _ (by decide)).mono fun e w' ⟨he, hw⟩ => ⟨_, he, hw ▸ Below.refl _ _, rfl⟩
    · refine ob_gtrue [177] 104 true 176 rfl rfl rfl rfl (fun v w h => h) fun aa g h => ?_
      obtain ⟨_, r0, rfl⟩ := seen_in rfl h.1
      have e0 := getD_of r0
      exact upon_value (v := .int .i64 0) (by simp [go_sem, e0, r0]) (Below.refl _ _) rfl
    · refine ob_gtrue [178] 104 true 176 rfl rfl rfl rfl (fun v w h => h) fun aa g h => ?_
      obtain ⟨_, r0, rfl⟩ := seen_in rfl h.1
      have e0 := getD_of r0
      exact upon_value (v := .bool true) (by simp [go_sem, e0, r0]) (Below.refl _ _) rfl
    · refine ob_plain [176, 179] rfl rfl fun aa g h => ?_
      obtain ⟨_, r0, rfl⟩ := seen_in rfl h.1
      have e0 := getD_of r0
      obtain ⟨_, r1, rfl⟩ := seen_in rfl h.2.1
      have e1 := getD_of r1
      exact upon_value (v := .bool true) (by simp [go_sem, e0, r0, e1, r1]) (Below.refl _ _) rfl
    · refine ob_plain [180] rfl rfl fun aa g h => ?_
      obtain ⟨_, r0, rfl⟩ := seen_in rfl h.1
      have e0 := getD_of r0
      exact upon_value (v := .bool true) (by simp [go_sem, e0, r0]) (Below.refl _ _) rfl
    · refine ob_gtrue [] 109 true 181 rfl rfl rfl rfl (fun v w h => h) fun aa g h => ?_
      refine upon_enter (f := 25) (args := #[.int .i64 7]) (by simp [go_sem]) rfl ?_
      exact (mx_ident_high 7 _ (by decide)).mono fun e w' ⟨he, hw⟩ => ⟨_, he, hw ▸ Below.refl _ _, rfl⟩
    · refine ob_gtrue [182] 109 true 181 rfl rfl rfl rfl (fun v w h => h) fun aa g h => ?_
      obtain ⟨_, r0, rfl⟩ := seen_in rfl h.1
      have e0 := getD_of r0
      exact upon_value (v := .int .i64 0) (by simp [go_sem, e0, r0]) (Below.refl _ _) rfl
    · refine ob_gtrue [183] 109 true 181 rfl rfl rfl rfl (fun v w h => h) fun aa g h => ?_
      obtain ⟨_, r0, rfl⟩ := seen_in rfl h.1
      have e0 := getD_of r0
      exact upon_value (v := .bool true) (by simp [go_sem, e0, r0]) (Below.refl _ _) rfl
    · refine ob_plain [181, 184] rfl rfl fun aa g h => ?_
      obtain ⟨_, r0, rfl⟩ := seen_in rfl h.1
      have e0 := getD_of r0
      obtain ⟨_, r1, rfl⟩ := seen_in rfl h.2.1
      have e1 := getD_of r1
      exact upon_value (v := .bool true) (by simp [go_sem, e0, r0, e1, r1]) (Below.refl _ _) rfl
    · refine ob_plain [185] rfl rfl fun aa g h => ?_
      obtain ⟨_, r0, rfl⟩ := seen_in rfl h.1
      have e0 := getD_of r0
      exact upon_value (v := .bool true) (by simp [go_sem, e0, r0]) (Below.refl _ _) rfl
  · intro aa gg hdf hsz hold hval
    obtain ⟨u, hu, hpu⟩ := hval 0 (by decide)
    obtain rfl : u = .bool true := hpu
    rename_i K hK
    exact hK _ _ (sane_end w gg.w aa hdf hu (below_then hT gg.h))
end Go.Proofs.Ytmcdkbnpcmiojaa
