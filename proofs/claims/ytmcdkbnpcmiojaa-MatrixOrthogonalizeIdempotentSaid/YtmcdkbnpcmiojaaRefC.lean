/-
  Identity for any dimension: the program's and the reference's.
  The reference's mignitude, and the pivot's row that it takes: the same as the program's.
  The reference's Numbers: a square of numbers.
  The reference's Valid for any rows.
-/
import Derived.Test.YtmcdkbnpcmiojaaRefA
namespace Go.Proofs.Ytmcdkbnpcmiojaa
open Go.ChangeShapes Go.WideShapes Go.ChangeAt Go.RowKit
set_option linter.unusedVariables false
set_option linter.unusedSimpArgs false
set_option maxRecDepth 100000

attribute [local irreducible] Calls
def idM (n : Nat) : List (List (Int × Int)) := if 1 ≤ n ∧ n ≤ 6 then matOf idF n else []
theorem idM_sq {n : Nat} (h1 : 1 ≤ n) (h6 : n ≤ 6) : idM n = matOf idF n := if_pos ⟨h1, h6⟩
theorem mx_nil (w : World) (p : Option Addr) (c : Nat) : Mx w (.slice p 0 c) [] := ⟨Nat.zero_le _, p, c, rfl, fun k x h => by simp at h⟩
set_option maxHeartbeats 2000000 in
theorem ident_any (n : Nat) (w : World) (hn : n ≤ 1000) :
    Calls Try.prog 25 #[.int .i64 (n : Int)] w fun e w' => ∃ u, e = .returned u ∧ Mx w' u (idM n) ∧ Below w.heap.size w w' := by
  by_cases h : 1 ≤ n ∧ n ≤ 6
  · rw [show idM n = matOf idF n from if_pos h]
    exact mx_ident n w h.1 h.2
  · have e : idM n = [] := if_neg h
    rw [e]
    by_cases h0 : 1 ≤ n
    · have d1 : decide ((n : Int) < 1) = false := decide_eq_false (by omega)
      have d2 : decide ((6 : Int) < n) = true := decide_eq_true (by omega)
      go_enter Try.func25, Try.ntmps25
      go_wp2_with (fail)
      go_ret
      exact ⟨_, rfl, mx_nil _ _ _, Below.refl _ _⟩
    · obtain rfl : n = 0 := by omega
      go_enter Try.func25, Try.ntmps25
      go_wp2_with (fail)
      go_ret
      exact ⟨_, rfl, mx_nil _ _ _, Below.refl _ _⟩
end Go.Proofs.Ytmcdkbnpcmiojaa

namespace Go.Proofs.Ytmcdkbnpcmiojaa
open Go.ChangeShapes Go.WideShapes Go.ChangeAt Go.RowKit
set_option linter.unusedVariables false
set_option linter.unusedSimpArgs false
set_option maxRecDepth 100000

attribute [local irreducible] Calls
theorem sg_mig (p : Int × Int) : sgI p ≠ 0 ↔ 0 < migI p := by
  unfold sgI sg migI
  by_cases h1 : 0 < p.1
  · rw [if_pos h1]
    constructor
    · intro _
      omega
    · intro _
      decide
  · rw [if_neg h1]
    by_cases h2 : p.2 < 0
    · rw [if_pos h2]
      constructor
      · intro _
        omega
      · intro _
        decide
    · rw [if_neg h2]
      constructor
      · intro h
        exact absurd rfl h
      · intro h
        omega
theorem mig_ref {p : Int × Int} (h : VB p) (hs : sgI p ≠ 0) : min (max p.1 (-p.1)) (max p.2 (-p.2)) = migI p := by
  have hb := VI.bd4 h
  have hm := (sg_mig p).1 hs
  unfold migI at hm ⊢
  have hle : p.1 ≤ p.2 := by
    rcases h with h | h
    · have h1 := h.1
      have h2 := h.2
      omega
    · exact h.2.2
  omega
/-- The reference's choice among the rows k, .., k + s - 1. -/
def refP (M : List (List (Int × Int))) (k : Nat) : Nat → Option Nat
  | 0 => none
  | s + 1 => match refP M k s with
    | none => if sgI (elI M (k + s) k) ≠ 0 then some (k + s) else none
    | some p => if sgI (elI M (k + s) k) ≠ 0 ∧ migI (elI M p k) < migI (elI M (k + s) k) then some (k + s) else some p
theorem refP_bst (M : List (List (Int × Int))) (k : Nat) : ∀ s, refP M k (s + 1) = if sgI (elI M (bst M k s) k) = 0 then none else some (bst M k s)
  | 0 => by
    show (if sgI (elI M (k + 0) k) ≠ 0 then some (k + 0) else none) = _
    unfold bst
    rw [Nat.add_zero]
    by_cases h : sgI (elI M k k) = 0
    · rw [if_pos h, if_neg (show ¬ (sgI (elI M k k) ≠ 0) from fun q => q h)]
    · rw [if_neg h, if_pos h]
  | s + 1 => by
    have ih := refP_bst M k s
    have e : k + (s + 1) = k + 1 + s := by omega
    rw [refP, ih, e]
    have g1 := sg_mig (elI M (bst M k s) k)
    have g2 := sg_mig (elI M (k + 1 + s) k)
    have z1 : 0 ≤ migI (elI M (bst M k s) k) := by unfold migI; omega
    have z2 : 0 ≤ migI (elI M (k + 1 + s) k) := by unfold migI; omega
    have hb : bst M k (s + 1) = if migI (elI M (bst M k s) k) < migI (elI M (k + 1 + s) k) then k + 1 + s else bst M k s := rfl
    rw [hb]
    by_cases h1 : sgI (elI M (bst M k s) k) = 0
    · have m1 : migI (elI M (bst M k s) k) = 0 := by
        have : ¬ 0 < migI (elI M (bst M k s) k) := fun q => g1.2 q h1
        omega
      rw [if_pos h1]
      dsimp only
      by_cases h2 : sgI (elI M (k + 1 + s) k) = 0
      · have m2 : migI (elI M (k + 1 + s) k) = 0 := by
          have : ¬ 0 < migI (elI M (k + 1 + s) k) := fun q => g2.2 q h2
          omega
        rw [if_neg (show ¬ (sgI (elI M (k + 1 + s) k) ≠ 0) from fun q => q h2), if_neg (by omega : ¬ migI (elI M (bst M k s) k) < migI (elI M (k + 1 + s) k)), if_pos h1]
      · have m2 := g2.1 h2
        rw [if_pos h2, if_pos (by omega : migI (elI M (bst M k s) k) < migI (elI M (k + 1 + s) k)), if_neg h2]
    · rw [if_neg h1]
      dsimp only
      by_cases h2 : migI (elI M (bst M k s) k) < migI (elI M (k + 1 + s) k)
      · have h3 := g2.2 (by omega)
        rw [if_pos (show sgI (elI M (k + 1 + s) k) ≠ 0 ∧ migI (elI M (bst M k s) k) < migI (elI M (k + 1 + s) k) from ⟨h3, h2⟩), if_pos h2, if_neg h3]
      · rw [if_neg (show ¬ (sgI (elI M (k + 1 + s) k) ≠ 0 ∧ migI (elI M (bst M k s) k) < migI (elI M (k + 1 + s) k)) from fun q => h2 q.2), if_neg h2, if_neg h1]
attribute [local go_sem ↓] run_max_two run_min_two run_max_three
end Go.Proofs.Ytmcdkbnpcmiojaa

namespace Go.Proofs.Ytmcdkbnpcmiojaa
open Go.ChangeShapes Go.WideShapes Go.ChangeAt Go.RowKit
set_option linter.unusedVariables false
set_option linter.unusedSimpArgs false
set_option maxRecDepth 100000

attribute [local irreducible] Calls
theorem r1made4 (x : Int) (w : World) (h0 : -9223372036854775808 ≤ x) (h1 : x ≤ 9223372036854775807) :
    Calls Try.prog 32 #[.int .i64 x] w fun e w' => e = .returned (.int .i64 (x.tmod 16777216)) ∧ Below w.heap.size w w' := by
  go_enter Try.func32, Try.ntmps32
  go_wp2_with (fail)
  go_ret
  exact ⟨rfl, Below.refl _ _⟩
theorem made_cy (n : Nat) : (madeCells (Value.cells (.int .i64 0)) (n * 1)).toList = cy (List.replicate n (0 : Int)) := by
  have e : cy (List.replicate n (0 : Int)) = List.replicate n (.int .i64 0) := by simp [cy]
  rw [e]
  refine List.eq_replicate_iff.2 ⟨by rw [Array.length_toList, size_madeCells]; omega, fun u hu => ?_⟩
  simp only [madeCells, Value.cells, Array.toList_map, List.mem_map] at hu
  obtain ⟨a, _, rfl⟩ := hu
  simp [Nat.mod_one]
theorem cy_set (l : List Int) (k : Nat) (x : Int) : (cy l).set k (.int .i64 x) = cy (l.set k x) := by simp [cy, List.map_set]
def NumR (n : Nat) (r : List Int) : Prop := r.length = n ∧ ∀ x ∈ r, -16777216 < x ∧ x < 16777216
theorem numR_set {n k : Nat} {r : List Int} {x : Int} (h : NumR n r) (hx : -16777216 < x ∧ x < 16777216) : NumR n (r.set k x) :=
  ⟨by rw [List.length_set]; exact h.1, fun y hy => by
    rcases List.mem_or_eq_of_mem_set hy with e | e
    · exact h.2 y e
    · rw [e]
      exact hx⟩
set_option maxHeartbeats 16000000 in
theorem r4numbers (v : Value) (l : List Int) (n : Nat) (w : World) (hv : Pt w v l) (hb : ∀ x ∈ l, -9223372036854775808 ≤ x ∧ x ≤ 9223372036854775807) (h1 : 1 ≤ n) (h6 : n ≤ 6) :
    Calls Try.prog 8 #[v, .int .i64 (n : Int)] w fun e w' => ∃ u us P, e = .returned u ∧ P.length = n ∧ (∀ r ∈ P, NumR n r) ∧ OwnN w.heap.size w' u us P ∧ Below w.heap.size w w' := by
  obtain ⟨p0, pi, pz0, pz1, pz2⟩ := info_parts info_nrow
  obtain ⟨q0, qi, qz0, qz1, qz2⟩ := info_parts info_i64
  have qmk : ∀ W : World, (Instr.makeSlice 22 (.int .i64 (n : Int)) (.int .i64 (n : Int))).run Try.prog W = .ok (.slice (some ⟨W.heap.size, 0, none⟩) n n) (W.alloc (.cells (madeCells (Value.cells (.int .i64 0)) (n * 1)) 2)) := fun W => by
    have := run_make (P := Try.prog) W 22 2 q0 _ Try.underlying22 qi qz0 .i64 .i64 n n (by omega) (Int.le_refl _) (by rw [qz2]; omega) (by omega)
    rw [qz1] at this
    simpa using this
  clear qi qz0 qz1 qz2
  have QMK := Lib.hid qmk
  clear qmk
  obtain ⟨hll, p, c, rfl, hp⟩ := hv
  unfold maxLen at hll
  have HP := Lib.hid hp
  have HB0 := Lib.hid hb
  clear hp hb
  go_enter Try.func8, Try.ntmps8
  go_wp2_with (fail)
  go_loopw [5, 6] (fun u i wr => ∃ (P : List (List Int)) (us : List Value) (g cap : Nat), i = .int .i64 P.length ∧ P.length ≤ n ∧ u = .slice (some ⟨g, 0, none⟩) P.length cap ∧ Hid (∀ r ∈ P, NumR n r) ∧ Hid (OwnN w.heap.size wr u us P) ∧ Below w.heap.size w wr) (fun _ i _ => n - (intOf i).toNat)
  case atStart =>
    exact ⟨[], [], w.heap.size, 0, rfl, Nat.zero_le _, rfl, Lib.hid (fun r h => by simp at h), Lib.hid ⟨by simpa using World.ownsRow_made (e := 22) (size := 1) w #[] 0 (Nat.le_refl _) (by decide) rfl, fun i r h => by simp at h⟩, (Below.refl _ _).alloc (Nat.le_refl _) _⟩
  case round =>
    obtain ⟨P, us, g, cap, rfl, hPn, rfl, HS, HO, hB⟩ := hrel
    by_cases hlt : P.length < n
    · have ik : (P.length : Int) < n := by omega
      obtain ⟨W0, rfl⟩ : ∃ W0, W0 = wr := ⟨_, rfl⟩
      have hsz0 := hB.size
      have qm := QMK.out W0
      obtain ⟨w2, hw2⟩ : ∃ w2, W0.alloc (.cells (madeCells (Value.cells (.int .i64 0)) (n * 1)) 2) = w2 := ⟨_, rfl⟩
      rw [hw2] at qm
      have hb2 : Below W0.heap.size W0 w2 := by rw [← hw2]; exact (Below.refl _ _).alloc (Nat.le_refl _) _
      have hin : w2.ownsRow W0.heap.size 2 1 (.slice (some ⟨W0.heap.size, 0, none⟩) n n) n (cy (List.replicate n (0 : Int))) := by
        rw [← hw2, ← made_cy]
        exact World.ownsRow_lit W0 _ n (Nat.le_refl _) (by unfold maxLen; omega) (size_madeCells _ _)
      have hn0 : NumR n (List.replicate n (0 : Int)) := ⟨by simp, fun x hx => by rw [(List.mem_replicate.1 hx).2]; decide⟩
      have HIN := Lib.hid hin
      have HN0 := Lib.hid hn0
      obtain ⟨q, hqn, hq36⟩ : ∃ q : Nat, P.length * n = q ∧ q ≤ 36 := ⟨P.length * n, rfl, Nat.le_trans (Nat.mul_le_mul (show P.length ≤ 6 by omega) h6) (by decide)⟩
      have hq : (P.length : Int) * (n : Int) = (q : Int) := by rw [← hqn]; push_cast; rfl
      have W1 := wrap_fit (q : Int) (by omega) (by omega)
      clear hqn hw2 hin hn0
      go_wp2_with (fail)
      clear qm
      go_loopw [8] (fun i wr => ∃ (d : Nat) (r : List Int), i = .int .i64 d ∧ d ≤ n ∧ Hid (NumR n r) ∧ Hid (wr.ownsRow W0.heap.size 2 1 (.slice (some ⟨W0.heap.size, 0, none⟩) n n) n (cy r)) ∧ Below W0.heap.size W0 wr) (fun i _ => n - (intOf i).toNat)
      case atStart => exact ⟨0, _, rfl, Nat.zero_le _, HN0, HIN, hb2⟩
      case round =>
        clear hb2 HIN HN0
        obtain ⟨d, r, rfl, hd, HNR, HRW, hB1⟩ := hrel
        have hBw : Below w.heap.size w wr := below_then hB hB1
        by_cases hdn : d < n
        · have i1 : (d : Int) < n := by omega
          have W2 := wrap_fit ((q : Int) + (d : Int)) (by omega) (by omega)
          by_cases hkl : q + d < l.length
          · have i3 : (q : Int) + (d : Int) < l.length := by omega
            have hT : ((q : Int) + (d : Int)).toNat = q + d := by omega
            have hN : ¬ ((q : Int) + (d : Int) < 0) := by omega
            obtain ⟨ba, oa, x, rfl, hx, hba, cx⟩ := Pt.at (c := 0) (n := 0) HP.out hkl hBw
            have hbd := HB0.out x (List.mem_of_getElem? hx)
            have hz : -16777216 < x.tmod 16777216 ∧ x.tmod 16777216 < 16777216 := by
              rcases Int.le_total 0 x with h | h
              · rw [Int.tmod_eq_emod_of_nonneg h]; omega
              · rw [show x = -(-x) by omega, Int.neg_tmod, Int.tmod_eq_emod_of_nonneg (by omega)]; omega
            have hc := fun w => r1made4 x w hbd.1 hbd.2
            obtain ⟨z, hzz⟩ : ∃ z, x.tmod 16777216 = z := ⟨_, rfl⟩
            rw [hzz] at hz
            simp only [hzz] at hc
            have HC := Lib.hid hc
            have HNS := Lib.hid (numR_set (k := d) HNR.out hz)
            have hrl : (cy r).length = n := by simp [cy]; exact HNR.out.1
            clear hz hc hzz hbd hx
            go_wp2_with (fail)
            refine (HC.out _).mono ?_
            rintro e w5 ⟨rfl, hB5⟩
            have hrow5 := HRW.out.kept (grown_below hB5) (.inr (by simp [Value.ownBlock]))
            have c0 := hrow5.cellAt d (by omega)
            obtain ⟨y0, hy0⟩ : ∃ y, (cy r)[d]? = some y := ⟨_, List.getElem?_eq_getElem (by omega)⟩
            rw [hy0] at c0
            have z0 := hrow5.frozenAt d
            have hrow6 := (hrow5.stored d (.int .i64 z)).1
            rw [cy_set] at hrow6
            have HR6 := Lib.hid hrow6
            have hB6 : Below W0.heap.size W0 (w5.setCell ⟨W0.heap.size, d, none⟩ (.int .i64 z)) := (below_then hB1 hB5).setCell (p := ⟨W0.heap.size, d, none⟩) (Nat.le_refl _) _
            clear hrow5 hrow6 hy0
            go_wp2_with (fail)
            go_roundw
            case rel => exact ⟨d + 1, r.set d z, by go_num, by omega, HNS, HR6, hB6⟩
            case measure => simp [intOf]; omega
          · have i3 : (l.length : Int) ≤ (q : Int) + (d : Int) := by omega
            have i4 : ¬ ((q : Int) + (d : Int) < l.length) := by omega
            have hO5 := HO.out.kept hB1
            have hout5 := hO5.out
            have hszw := hBw.size
            have hrl := HNR.out.1
            have hrowB : wr.ownsRow w.heap.size 2 1 (.slice (some ⟨W0.heap.size, 0, none⟩) r.length n) r.length (cy r) := by
              rw [hrl]
              rcases HRW.out.2 with ⟨e, e2⟩ | ⟨g, cap, cur, e, hg, r⟩
              · exact ⟨HRW.out.1, .inl ⟨e, e2⟩⟩
              · exact ⟨HRW.out.1, .inr ⟨g, cap, cur, e, Nat.le_trans hsz0 hg, r⟩⟩
            have HRL := Lib.hid hrl
            have HO5 := Lib.hid hO5
            have HRB := Lib.hid hrowB
            clear hO5 hrowB hrl
            go_wp2_with (at_builtin; refine wpList_append_own _ rfl (.tmp 44) (.tmp 46) 25 rfl w.heap.size 22 p0 (.slice none 0 0) 1 24 Try.underlying25 pi pz0 pz1 pz2 rfl (by decide) (.slice (some ⟨g, 0, none⟩) P.length cap) P.length _ rfl (hout5.alloc _) ⟨wr.heap.size, 0, none⟩ 1 1 [.slice (some ⟨W0.heap.size, 0, none⟩) n n] rfl rfl (new_one _ _ _) (one_sl _ _ _) (by unfold maxLen; omega) (by omega) (by first | omega | (simp; omega)) ?_)
            have hBa : Below wr.heap.size wr (wr.alloc (.cells #[Value.slice (some ⟨W0.heap.size, 0, none⟩) n n] 22)) := (Below.refl _ _).alloc (Nat.le_refl _) _
            intro v' w6 hown' hgrow _
            obtain ⟨g', cap', rfl⟩ := ownsRow_succ hown'
            have hB9 : Below w.heap.size w w6 := Below.grown (hBw.trans (hBa.mono hszw)) hgrow (by first | omega | (simp; omega)) (fun q hq => (hout5.lt q hq).1)
            have hP : OwnN w.heap.size w6 (.slice (some ⟨g', 0, none⟩) (P.length + 1) cap') (us ++ [.slice (some ⟨W0.heap.size, 0, none⟩) r.length n]) (P ++ [r]) :=
              OwnN.push (HO5.out.kept hBa) (HRB.out.kept (grown_below hBa) (.inr (by simp [Value.ownBlock]))) (by rw [HRL.out]; exact hown') hgrow
            have HPP := Lib.hid hP
            have hall : ∀ s ∈ P ++ [r], NumR n s := fun s hs => by
              rcases List.mem_append.1 hs with h | h
              · exact HS.out s h
              · rw [List.mem_singleton.1 h]
                exact HNR.out
            have HALL := Lib.hid hall
            clear hP hown' hgrow hout5 hall
            go_wp2_with (fail)
            go_roundw
            case rel => exact ⟨P ++ [r], _, g', cap', by simp, by simp; omega, by simp, HALL, HPP, hB9⟩
            case measure => simp [intOf]; omega
        · have i1 : (n : Int) ≤ d := by omega
          have hO5 := HO.out.kept hB1
          have hout5 := hO5.out
          have hszw := hBw.size
          have hrl := HNR.out.1
          have hrowB : wr.ownsRow w.heap.size 2 1 (.slice (some ⟨W0.heap.size, 0, none⟩) r.length n) r.length (cy r) := by
            rw [hrl]
            rcases HRW.out.2 with ⟨e, e2⟩ | ⟨g, cap, cur, e, hg, r⟩
            · exact ⟨HRW.out.1, .inl ⟨e, e2⟩⟩
            · exact ⟨HRW.out.1, .inr ⟨g, cap, cur, e, Nat.le_trans hsz0 hg, r⟩⟩
          have HRL := Lib.hid hrl
          have HO5 := Lib.hid hO5
          have HRB := Lib.hid hrowB
          clear hO5 hrowB hrl
          go_wp2_with (at_builtin; refine wpList_append_own _ rfl (.tmp 44) (.tmp 46) 25 rfl w.heap.size 22 p0 (.slice none 0 0) 1 24 Try.underlying25 pi pz0 pz1 pz2 rfl (by decide) (.slice (some ⟨g, 0, none⟩) P.length cap) P.length _ rfl (hout5.alloc _) ⟨wr.heap.size, 0, none⟩ 1 1 [.slice (some ⟨W0.heap.size, 0, none⟩) n n] rfl rfl (new_one _ _ _) (one_sl _ _ _) (by unfold maxLen; omega) (by omega) (by first | omega | (simp; omega)) ?_)
          have hBa : Below wr.heap.size wr (wr.alloc (.cells #[Value.slice (some ⟨W0.heap.size, 0, none⟩) n n] 22)) := (Below.refl _ _).alloc (Nat.le_refl _) _
          intro v' w6 hown' hgrow _
          obtain ⟨g', cap', rfl⟩ := ownsRow_succ hown'
          have hB9 : Below w.heap.size w w6 := Below.grown (hBw.trans (hBa.mono hszw)) hgrow (by first | omega | (simp; omega)) (fun q hq => (hout5.lt q hq).1)
          have hP : OwnN w.heap.size w6 (.slice (some ⟨g', 0, none⟩) (P.length + 1) cap') (us ++ [.slice (some ⟨W0.heap.size, 0, none⟩) r.length n]) (P ++ [r]) :=
            OwnN.push (HO5.out.kept hBa) (HRB.out.kept (grown_below hBa) (.inr (by simp [Value.ownBlock]))) (by rw [HRL.out]; exact hown') hgrow
          have HPP := Lib.hid hP
          have hall : ∀ s ∈ P ++ [r], NumR n s := fun s hs => by
            rcases List.mem_append.1 hs with h | h
            · exact HS.out s h
            · rw [List.mem_singleton.1 h]
              exact HNR.out
          have HALL := Lib.hid hall
          clear hP hown' hgrow hout5 hall
          go_wp2_with (fail)
          go_roundw
          case rel => exact ⟨P ++ [r], _, g', cap', by simp, by simp; omega, by simp, HALL, HPP, hB9⟩
          case measure => simp [intOf]; omega
    · have hPl : P.length = n := by omega
      have HPL := Lib.hid hPl
      clear hPl
      go_wp2_with (fail)
      go_ret
      exact ⟨_, us, P, rfl, HPL.out, HS.out, HO.out, hB⟩
end Go.Proofs.Ytmcdkbnpcmiojaa

namespace Go.Proofs.Ytmcdkbnpcmiojaa
open Go.ChangeShapes Go.WideShapes Go.ChangeAt Go.RowKit
set_option linter.unusedVariables false
set_option linter.unusedSimpArgs false
set_option maxRecDepth 100000

attribute [local irreducible] Calls
def RowOk (n : Nat) (r : List (Int × Int)) : Prop := r.length = n ∧ ∀ p ∈ r, VB p
theorem all_take {α : Type} {P : α → Prop} {l : List α} {k : Nat} {x : α} (h : ∀ y ∈ l.take k, P y) (hx : l[k]? = some x) (hp : P x) : ∀ y ∈ l.take (k + 1), P y := by
  intro y hy
  rw [List.take_add_one, hx, List.mem_append] at hy
  rcases hy with h' | h'
  · exact h y h'
  · simp at h'
    rw [h']
    exact hp
theorem valid_iff (M : List (List (Int × Int))) : (M.all vrow && sqB M) = true ↔ 1 ≤ M.length ∧ M.length ≤ 6 ∧ ∀ r ∈ M, RowOk M.length r := by
  unfold sqB vrow
  simp only [Bool.and_eq_true, List.all_eq_true, decide_eq_true_eq]
  constructor
  · rintro ⟨h1, h2, h3, h4⟩
    exact ⟨h3, h4, fun r hr => ⟨h2 r hr, fun p hp => (h1 r hr).1 p hp⟩⟩
  · rintro ⟨h3, h4, h⟩
    exact ⟨fun r hr => ⟨fun p hp => (h r hr).2 p hp, by rw [(h r hr).1]; exact h3, by rw [(h r hr).1]; exact h4⟩, fun r hr => (h r hr).1, h3, h4⟩
end Go.Proofs.Ytmcdkbnpcmiojaa
