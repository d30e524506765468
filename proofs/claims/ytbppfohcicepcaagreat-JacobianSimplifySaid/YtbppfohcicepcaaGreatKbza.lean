/-
  R4T
-/
import Derived.Test.YtbppfohcicepcaaGreatKbk
import Derived.Test.YtbppfohcicepcaaGreatKbx
namespace Go.Proofs.YtbppfohcicepcaaGreat
open Go.ChangeShapes Go.WideShapes Go.ChangeAt Go.RowKit
set_option linter.unusedVariables false
set_option linter.unusedSimpArgs false
set_option maxRecDepth 100000
attribute [local irreducible] Calls
theorem ret_bool' {a b : Bool} (h : a = b) : Ending.returned (.bool a) = .returned (.bool b) := by rw [h]
theorem list_ne_at {α : Type} [DecidableEq α] {M N : List α} {k : Nat} {x y : α} (hx : M[k]? = some x) (hy : N[k]? = some y) (h : ¬ x = y) : decide (M = N) = false := by
  rw [decide_eq_false_iff_not]
  intro e
  rw [e, hy] at hx
  exact h (Option.some.inj hx).symm
/-- Rows of intervals. -/
abbrev Mx := Lx (α := List (Int × Int)) Bx
theorem Bx.cut {w : World} {v : Value} {l : List (Int × Int)} (h : Bx w v l) : ∃ p c, v = .slice p l.length c := by
  obtain ⟨_, p, c, e, _⟩ := h
  exact ⟨p, c, e⟩
theorem Bx.rd2 {w : World} {p : Option Addr} {n c j : Nat} {l : List (Int × Int)} {x y : Int} (h : Bx w (.slice p n c) l) (hx : l[j]? = some (x, y)) : ∃ b o, p = some ⟨b, o, none⟩ ∧ b < w.heap.size ∧ ∀ g : Grown w, b < g.w.heap.size ∧ g.w.cell? ⟨b, o + j * 2, none⟩ = some (.int .i64 x) ∧ g.w.cell? ⟨b, o + j * 2 + 1, none⟩ = some (.int .i64 y) := by
  obtain ⟨_, q, c', e, h⟩ := h
  obtain ⟨b, o, hq, h1, h2, h3⟩ := h j (x, y) hx
  simp only [Value.slice.injEq] at e
  exact ⟨b, o, e.1.trans hq, h1, fun g => ⟨Nat.lt_of_lt_of_le h1 g.h.size, (g.cell (b := b) h1).trans h2, (g.cell (b := b) h1).trans h3⟩⟩
theorem grows_bx : Grows (α := List (Int × Int)) Bx := fun _ _ _ _ h hb => h.grow hb
set_option maxHeartbeats 8000000 in
theorem r4sameT (v u : Value) (M N : List (List (Int × Int))) (w : World) (hv : Mx w v M) (hu : Mx w u N) :
    Calls Tryz.prog 21 #[v, u] w fun e w' => e = .returned (.bool (decide (M = N))) ∧ Below w.heap.size w w' := by
  have hl := hv.1
  have hl2 := hu.1
  unfold maxLen at hl hl2
  obtain ⟨p, c, rfl⟩ := hv.cut
  obtain ⟨p', c', rfl⟩ := hu.cut
  have HV := Lib.hid hv
  have HU := Lib.hid hu
  clear hv hu
  by_cases hlen : M.length = N.length
  · have HL := Lib.hid hlen
    have hne : ((M.length : Int) != (N.length : Int)) = false := by simp [hlen]
    clear hlen
    go_enter Tryz.func21, Tryz.ntmps21
    go_wp2_with (fail)
    clear hne
    go_loopw [5] (fun i wr => ∃ k : Nat, i = .int .i64 k ∧ k ≤ M.length ∧ Hid (M.take k = N.take k) ∧ ∃ g : Grown w, wr = g.w) (fun i _ => M.length - (intOf i).toNat)
    case atStart => exact ⟨0, rfl, Nat.zero_le _, Lib.hid rfl, ⟨w, Below.refl _ _⟩, rfl⟩
    case round =>
      obtain ⟨k, rfl, hk, hz, g0, rfl⟩ := hrel
      by_cases hlt : k < M.length
      · have hlt2 : k < N.length := by rw [← HL.out]; exact hlt
        obtain ⟨r, hr⟩ : ∃ r, M[k]? = some r := ⟨M[k], List.getElem?_eq_getElem hlt⟩
        obtain ⟨s, hs⟩ : ∃ s, N[k]? = some s := ⟨N[k], List.getElem?_eq_getElem hlt2⟩
        obtain ⟨b, o, ur, hp, hb, rd⟩ := HV.out.rd grows_bx hr
        obtain ⟨b', o', us, hp', hb', rd'⟩ := HU.out.rd grows_bx hs
        subst hp hp'
        have hbr := (rd ⟨w, Below.refl _ _⟩).2.2
        have hbs := (rd' ⟨w, Below.refl _ _⟩).2.2
        dsimp only at hbr hbs
        have hrl := hbr.1
        unfold maxLen at hrl
        obtain ⟨pr, cr, rfl⟩ := hbr.cut
        obtain ⟨ps, cs, rfl⟩ := hbs.cut
        have fA := fun g => (rd g).2.1
        have fB := fun g => (rd' g).2.1
        have HBR := Lib.hid hbr
        have HBS := Lib.hid hbs
        have HR := Lib.hid hr
        have HS := Lib.hid hs
        clear rd rd' hr hs hbr hbs
        have i1 : (k : Int) < M.length := by omega
        have i2 : (k : Int) < N.length := by omega
        by_cases he : r.length = s.length
        · have hne : ((r.length : Int) != (s.length : Int)) = false := by simp [he]
          have HE := Lib.hid he
          clear he
          go_wp2_with (fail)
          refine region_quiet' g0 (by kernel_rfl) (by kernel_rfl) ?_
          repeat (go_big_quiet_step (fail))
          refine wpQuiet_nil ?_
          rintro _ ⟨g1, rfl⟩
          go_wp2_with (fail)
          clear hne
          go_loopw [6] (fun j wr => ∃ d : Nat, j = .int .i64 d ∧ d ≤ r.length ∧ Hid (r.take d = s.take d) ∧ ∃ g : Grown w, wr = g.w) (fun j _ => r.length - (intOf j).toNat)
          case atStart => exact ⟨0, rfl, Nat.zero_le _, Lib.hid rfl, g1, rfl⟩
          case round =>
            obtain ⟨d, rfl, hd, hzd, g2, rfl⟩ := hrel
            have f1 := fA g2
            by_cases hdl : d < r.length
            · have hdl2 : d < s.length := by rw [← HE.out]; exact hdl
              obtain ⟨x, y, hx⟩ : ∃ x y, r[d]? = some (x, y) := ⟨r[d].1, r[d].2, List.getElem?_eq_getElem hdl⟩
              obtain ⟨x', y', hx'⟩ : ∃ x y, s[d]? = some (x, y) := ⟨s[d].1, s[d].2, List.getElem?_eq_getElem hdl2⟩
              obtain ⟨b1, o1, hp1, hb1, rd1⟩ := HBR.out.rd2 hx
              obtain ⟨b2, o2, hp2, hb2, rd2⟩ := HBS.out.rd2 hx'
              subst hp1 hp2
              have gA := fun g => (rd1 g).2.1
              have gB := fun g => (rd1 g).2.2
              have gC := fun g => (rd2 g).2.1
              have gD := fun g => (rd2 g).2.2
              have HX := Lib.hid hx
              have HX' := Lib.hid hx'
              clear rd1 rd2 hx hx' hdl2
              have j1 : (d : Int) < r.length := by omega
              have j2 : (d : Int) < s.length := by have := HE.out; omega
              by_cases e1 : x = x'
              · by_cases e2 : y = y'
                · subst e1 e2
                  go_wp2_with (fail)
                  refine region_quiet' g2 (by kernel_rfl) (by kernel_rfl) ?_
                  repeat (go_big_quiet_step (fail))
                  refine wpQuiet_nil ?_
                  rintro _ ⟨g3, rfl⟩
                  go_wp2_with (fail)
                  go_roundw
                  case rel => exact ⟨d + 1, by go_num, by omega, Lib.hid (take_succ_eq hzd.out HX.out HX'.out rfl), g3, rfl⟩
                  case measure => simp [intOf]; omega
                · have n2 : (y == y') = false := by rw [beq_eq_false_iff_ne]; exact e2
                  have HN : Hid (¬ (x, y) = (x', y')) := Lib.hid (fun e => e2 (congrArg Prod.snd e))
                  subst e1
                  clear e2
                  go_wp2_with (fail)
                  refine region_quiet' g2 (by kernel_rfl) (by kernel_rfl) ?_
                  repeat (go_big_quiet_step (fail))
                  refine wpQuiet_nil ?_
                  rintro _ ⟨g3, rfl⟩
                  go_wp2_with (fail)
                  go_ret
                  exact ⟨ret_bool' (list_ne_at HR.out HS.out (of_decide_eq_false (list_ne_at HX.out HX'.out HN.out))).symm, g3.h⟩
              · have n1 : (x == x') = false := by rw [beq_eq_false_iff_ne]; exact e1
                have HN : Hid (¬ (x, y) = (x', y')) := Lib.hid (fun e => e1 (congrArg Prod.fst e))
                clear e1
                go_wp2_with (fail)
                refine region_quiet' g2 (by kernel_rfl) (by kernel_rfl) ?_
                repeat (go_big_quiet_step (fail))
                refine wpQuiet_nil ?_
                rintro _ ⟨g3, rfl⟩
                go_wp2_with (fail)
                go_ret
                exact ⟨ret_bool' (list_ne_at HR.out HS.out (of_decide_eq_false (list_ne_at HX.out HX'.out HN.out))).symm, g3.h⟩
            · obtain rfl : d = r.length := by omega
              go_wp2_with (fail)
              go_roundw
              case rel =>
                have hrs := hzd.out
                rw [List.take_of_length_le (Nat.le_refl _), List.take_of_length_le (by rw [HE.out]; exact Nat.le_refl _)] at hrs
                exact ⟨k + 1, by go_num, by omega, Lib.hid (take_succ_eq hz.out HR.out HS.out hrs), g2, rfl⟩
              case measure => simp [intOf]; omega
        · have hne : ((r.length : Int) != (s.length : Int)) = true := by simp; omega
          have HN : Hid (¬ r = s) := Lib.hid (fun e => he (by rw [e]))
          clear he
          go_wp2_with (fail)
          refine region_quiet' g0 (by kernel_rfl) (by kernel_rfl) ?_
          repeat (go_big_quiet_step (fail))
          refine wpQuiet_nil ?_
          rintro _ ⟨g1, rfl⟩
          go_wp2_with (fail)
          go_ret
          exact ⟨ret_bool' (list_ne_at HR.out HS.out HN.out).symm, g1.h⟩
      · obtain rfl : k = M.length := by omega
        go_wp2_with (fail)
        go_ret
        have e := hz.out
        rw [List.take_of_length_le (Nat.le_refl _), List.take_of_length_le (by rw [HL.out]; exact Nat.le_refl _)] at e
        exact ⟨ret_bool' (decide_eq_true e).symm, g0.h⟩
  · have hne : ((M.length : Int) != (N.length : Int)) = true := by simp; omega
    have HN : Hid (decide (M = N) = false) := Lib.hid (decide_eq_false (fun e => hlen (by rw [e])))
    clear hlen
    go_enter Tryz.func21, Tryz.ntmps21
    go_wp2_with (fail)
    go_ret
    exact ⟨ret_bool' HN.out.symm, Below.refl _ _⟩
end Go.Proofs.YtbppfohcicepcaaGreat
