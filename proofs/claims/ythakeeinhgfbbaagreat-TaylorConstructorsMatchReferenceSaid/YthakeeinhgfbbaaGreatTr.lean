/-
  Package poly: even, haveNumbers, plus, joined, roundingError, Const.
-/
import Derived.Test.YthakeeinhgfbbaaGreatTq
import Derived.Test.YthakeeinhgfbbaaGreatIw4a
namespace Go.Proofs.YthakeeinhgfbbaaGreat
open Go.ChangeShapes Go.WideShapes Go.ChangeAt Go.RowKit
set_option linter.unusedVariables false
set_option linter.unusedSimpArgs false
set_option maxRecDepth 100000

attribute [local irreducible] Calls
/-- Not even. -/
def oddB (x : Int) : Bool := x % 2 != 0
theorem odd_ok (x : Int) (w : World) (h : 0 ≤ x ∧ x ≤ 255) : Calls Tryz.prog 143 #[.int .u8 x] w fun e w' => e = .returned (.bool (oddB x)) ∧ w' = w := by
  have hm : x.tmod 2 = x % 2 := Int.tmod_eq_emod_of_nonneg h.1
  go_enter Tryz.func143, Tryz.ntmps143
  go_wp2_with (fail)
  go_ret
  exact ⟨by first | rfl | simp [oddB, hm] | (unfold oddB; rw [← hm]; rfl), rfl⟩
theorem any_take {α : Type} {l : List α} {f : α → Bool} {k : Nat} {x : α} (h : (l.take k).any f = false) (hx : l[k]? = some x) (hb : f x = false) : (l.take (k + 1)).any f = false := by
  rw [List.take_add_one, hx, List.any_append, h]
  simp [hb]
theorem any_at {α : Type} {l : List α} {f : α → Bool} {k : Nat} {x : α} (hx : l[k]? = some x) (hb : f x = true) : l.any f = true := List.any_eq_true.2 ⟨x, List.mem_of_getElem? hx, hb⟩
set_option maxHeartbeats 4000000 in
theorem index_u8 (b : Nat) (e : List Int) (w : World) (h : ExB w b e) (hl : e.length = 6) (hv : ∀ x ∈ e, 0 ≤ x ∧ x ≤ 255) (hb : b < w.heap.size) :
    Calls Tryz.prog 150 #[.slice (some ⟨b, 0, none⟩) 6 6, .func (.func 143) #[] #[]] w fun r w' => ∃ i : Int, r = .returned (.int .i64 i) ∧ decide (0 ≤ i) = e.any oddB ∧ Below w.heap.size w w' := by
  have H := Lib.hid h
  have HL := Lib.hid hl
  have HV := Lib.hid hv
  clear h hl hv
  go_enter Tryz.func150, Tryz.ntmps150
  go_wp2_with (fail)
  go_loopw [8] (fun i wr => ∃ k : Nat, i = .int .i64 k ∧ k ≤ 6 ∧ Hid ((e.take k).any oddB = false) ∧ w = wr) (fun i _ => 6 - (intOf i).toNat)
  case atStart => exact ⟨0, rfl, Nat.zero_le _, Lib.hid rfl, rfl⟩
  case round =>
    obtain ⟨k, rfl, hk, HN, rfl⟩ := hrel
    by_cases hlt : k < 6
    · have i1 : (k : Int) < 6 := by omega
      obtain ⟨x, hx⟩ : ∃ x, e[k]? = some x := ⟨_, List.getElem?_eq_getElem (by rw [HL.out]; exact hlt)⟩
      have fx := H.out ⟨w, Below.refl _ _⟩ k x hx
      dsimp only at fx
      have hc := fun w => odd_ok x w (HV.out x (List.mem_of_getElem? hx))
      have HX := Lib.hid hx
      clear hx
      cases hbo : oddB x with
      | true =>
        rw [hbo] at hc
        have HC := Lib.hid hc
        have HA : Hid (e.any oddB = true) := Lib.hid (any_at HX.out hbo)
        clear hbo hc
        go_wp2_with (fail)
        refine (HC.out _).mono ?_
        rintro e2 w5 ⟨rfl, rfl⟩
        go_wp2_with (fail)
        go_ret
        exact ⟨_, rfl, by rw [HA.out]; exact decide_eq_true (by omega), Below.refl _ _⟩
      | false =>
        rw [hbo] at hc
        have HC := Lib.hid hc
        have HA : Hid ((e.take (k + 1)).any oddB = false) := Lib.hid (any_take HN.out HX.out hbo)
        clear hbo hc
        go_wp2_with (fail)
        refine (HC.out _).mono ?_
        rintro e2 w5 ⟨rfl, rfl⟩
        go_wp2_with (fail)
        go_roundw
        case rel => exact ⟨k + 1, by go_num, by omega, HA, by first | trivial | rfl⟩
        case measure => simp [intOf]; omega
    · obtain rfl : k = 6 := by omega
      have hn := HN.out
      rw [List.take_of_length_le (by rw [HL.out]; exact Nat.le_refl _)] at hn
      have HA := Lib.hid hn
      clear hn
      rw [show ((6 : Nat) : Int) = 6 from rfl]
      go_wp2_with (fail)
      go_ret
      exact ⟨_, rfl, by rw [HA.out]; rfl, Below.refl _ _⟩
theorem contains_u8 (b : Nat) (e : List Int) (w : World) (h : ExB w b e) (hl : e.length = 6) (hv : ∀ x ∈ e, 0 ≤ x ∧ x ≤ 255) (hb : b < w.heap.size) :
    Calls Tryz.prog 142 #[.slice (some ⟨b, 0, none⟩) 6 6, .func (.func 143) #[] #[]] w fun r w' => r = .returned (.bool (e.any oddB)) ∧ Below w.heap.size w w' := by
  have HC := Lib.hid (index_u8 b e w h hl hv hb)
  clear h hl hv
  go_enter Tryz.func142, Tryz.ntmps142
  go_wp2_with (fail)
  refine HC.out.mono ?_
  rintro e2 w5 ⟨r, rfl, hr, hB⟩
  have HR := Lib.hid hr
  have HB := Lib.hid hB
  clear hr hB
  go_wp2_with (fail)
  go_ret
  exact ⟨by rw [← HR.out]; rfl, HB.out⟩
theorem even_any (e : List Int) : (!e.any oddB) = evenE e := by
  unfold evenE oddB
  induction e with
  | nil => rfl
  | cons a l ih =>
    rw [List.any_cons, List.all_cons, ← ih]
    cases h : (a % 2 != 0)
    · have : (a % 2 == 0) = true := by simpa using h
      simp [this]
    · have : (a % 2 == 0) = false := by simpa using h
      simp [this]
theorem even_ok (e : List Int) (w : World) (h : EV e) :
    Calls Tryz.prog 129 #[valE e] w fun r w' => r = .returned (.bool (evenE e)) ∧ Below w.heap.size w w' := by
  obtain ⟨a0, a1, a2, a3, a4, a5, he⟩ := six_of h
  rw [show valE e = .agg #[.int .u8 a0, .int .u8 a1, .int .u8 a2, .int .u8 a3, .int .u8 a4, .int .u8 a5] by rw [he]; rfl]
  have hX : ExB (w.alloc (.cells #[.int .u8 a0, .int .u8 a1, .int .u8 a2, .int .u8 a3, .int .u8 a4, .int .u8 a5] 61)) w.heap.size e := by rw [he]; exact ExB.new w _ _ _ _ _ _
  have hba : Below w.heap.size w (w.alloc (.cells #[.int .u8 a0, .int .u8 a1, .int .u8 a2, .int .u8 a3, .int .u8 a4, .int .u8 a5] 61)) := (Below.refl _ _).alloc (Nat.le_refl _) _
  have HC := Lib.hid (contains_u8 w.heap.size e _ hX h.1 h.2 (by simp))
  obtain ⟨r, hr⟩ : ∃ r, e.any oddB = r := ⟨_, rfl⟩
  have hr2 : (!r) = evenE e := by rw [← hr]; exact even_any e
  rw [hr] at HC
  rw [← hr2]
  clear he hX hr hr2 h
  go_enter Tryz.func129, Tryz.ntmps129
  go_wp2_with (fail)
  refine HC.out.mono ?_
  rintro e2 w5 ⟨rfl, hB⟩
  go_wp2_with (fail)
  go_ret
  exact ⟨rfl, below_then hba hB⟩
/-- The sum of two intervals as plain numbers. -/
theorem plus_ok (a b c d : Int) (w : World) (h1 : -4611686018427387904 ≤ a ∧ a ≤ 4611686018427387904) (h2 : -4611686018427387904 ≤ b ∧ b ≤ 4611686018427387904) (h3 : -4611686018427387904 ≤ c ∧ c ≤ 4611686018427387903) (h4 : -4611686018427387904 ≤ d ∧ d ≤ 4611686018427387903) :
    Calls Tryz.prog 106 #[.agg #[.int .i64 a, .int .i64 b], .agg #[.int .i64 c, .int .i64 d]] w fun e w' => e = .returned (.agg #[.int .i64 (a + c), .int .i64 (b + d)]) ∧ Below w.heap.size w w' := by
  have W1 := wrap_i64 (a + c) (by omega) (by omega)
  have W2 := wrap_i64 (b + d) (by omega) (by omega)
  go_enter Tryz.func106, Tryz.ntmps106
  go_wp2_with (fail)
  refine bodyPost_ret (v := .agg #[.int .i64 (a + c), .int .i64 (b + d)]) (by simp [results, Tryz.results106, go_sem]) rfl ⟨rfl, ?_⟩
  go_grown
def rndE (e : List Int) : Int × Int := if evenE e = true then (0, 1) else (-1, 1)
theorem rnd_ok (e : List Int) (w : World) (h : EV e) :
    Calls Tryz.prog 119 #[valE e] w fun r w' => r = .returned (.agg #[.int .i64 (rndE e).1, .int .i64 (rndE e).2]) ∧ Below w.heap.size w w' := by
  have HC := Lib.hid (fun w => even_ok e w h)
  obtain ⟨a0, a1, a2, a3, a4, a5, he⟩ := six_of h
  have hv : valE e = .agg #[.int .u8 a0, .int .u8 a1, .int .u8 a2, .int .u8 a3, .int .u8 a4, .int .u8 a5] := by rw [he]; rfl
  rw [hv] at HC ⊢
  unfold rndE
  clear he h hv
  cases hb : evenE e with
  | true =>
    rw [hb] at HC
    rw [if_pos rfl]
    clear hb
    go_enter Tryz.func119, Tryz.ntmps119
    go_wp2_with (fail)
    refine (HC.out _).mono ?_
    rintro e1 w1 ⟨rfl, hB1⟩
    obtain ⟨kc1, kf1⟩ := bcell hB1
    have hz1 := hB1.size
    simp only [World.size_alloc] at hz1
    have hs10 : w.heap.size < w1.heap.size := by omega
    have hs11 : w.heap.size + 1 < w1.heap.size := by omega
    have hB' := below_then (((Below.refl w.heap.size w).alloc (Nat.le_refl _) _).alloc (by simp) _) hB1
    have q0 := kc1 (w.heap.size + 1) 0 (by simp)
    have q1 := kc1 (w.heap.size + 1) 1 (by simp)
    have z0 := kf1 (w.heap.size + 1) 0 (by simp)
    have z1 := kf1 (w.heap.size + 1) 1 (by simp)
    simp [go_sem] at q0 q1 z0 z1
    go_wp2_with (fail)
    refine bodyPost_ret (v := .agg #[.int .i64 0, .int .i64 1]) (by simp [results, Tryz.results119, go_sem, q0, q1]) rfl ⟨rfl, ?_⟩
    go_grown
  | false =>
    rw [hb] at HC
    rw [if_neg (by decide)]
    clear hb
    go_enter Tryz.func119, Tryz.ntmps119
    go_wp2_with (fail)
    refine (HC.out _).mono ?_
    rintro e1 w1 ⟨rfl, hB1⟩
    obtain ⟨kc1, kf1⟩ := bcell hB1
    have hz1 := hB1.size
    simp only [World.size_alloc] at hz1
    have hs10 : w.heap.size < w1.heap.size := by omega
    have hs11 : w.heap.size + 1 < w1.heap.size := by omega
    have hB' := below_then (((Below.refl w.heap.size w).alloc (Nat.le_refl _) _).alloc (by simp) _) hB1
    have q0 := kc1 (w.heap.size + 1) 0 (by simp)
    have q1 := kc1 (w.heap.size + 1) 1 (by simp)
    have z0 := kf1 (w.heap.size + 1) 0 (by simp)
    have z1 := kf1 (w.heap.size + 1) 1 (by simp)
    simp [go_sem] at q0 q1 z0 z1
    go_wp2_with (fail)
    refine bodyPost_ret (v := .agg #[.int .i64 (-1), .int .i64 1]) (by simp [results, Tryz.results119, go_sem, q0, q1]) rfl ⟨rfl, ?_⟩
    go_grown
end Go.Proofs.YthakeeinhgfbbaaGreat
