/-
 Systems of tapes; the law of compiled tapes.
-/
import Derived.Test.YtajddejeglhbhaaTjo
import Derived.Test.YtajddejeglhbhaaUB
namespace Go.Proofs.Ytajddejeglhbhaa
open Go.ChangeShapes Go.WideShapes Go.ChangeAt Go.RowKit Go.Maps
set_option linter.unusedVariables false
set_option linter.unusedSimpArgs false
set_option maxRecDepth 100000
attribute [local irreducible] Calls
theorem nw_of {N : Int} {x : Nd} (h : vnB N x = true) (hN : N ≤ 6) : NW x := by
 obtain ⟨op, n, lo, hi⟩ := x
 unfold vnB at h
 dsimp only at h
 unfold NW W64
 dsimp only
 split at h
 ·simp only [Bool.and_eq_true, decide_eq_true_eq] at h
  obtain ⟨ha, hv⟩ := h
  unfold VI Ent Num at hv
  omega
 ·split at h
  ·simp only [Bool.and_eq_true, decide_eq_true_eq] at h
   omega
  ·split at h
   ·simp only [Bool.and_eq_true, decide_eq_true_eq] at h
    omega
   ·cases h
theorem ev_nodes {N : Int} : ∀ {t : Ex}, EV N t → ∀ y ∈ pre t, vnB N y = true
 | .e0 x, h, y, hy => by
  simp [pre] at hy
  subst hy
  exact h.2
 | .e1 x a, h, y, hy => by
  simp [pre] at hy
  rcases hy with rfl | hy
  ·exact h.1.2
  ·exact ev_nodes h.2 y hy
 | .e2 x a b, h, y, hy => by
  simp [pre] at hy
  rcases hy with rfl | hy | hy
  ·exact h.1.2
  ·exact ev_nodes h.2.1 y hy
  ·exact ev_nodes h.2.2 y hy
theorem ve_cons {N : Int} {x : Nd} (r : List Nd) {M : Int} (hM : M ≠ 0) (hx : vnB N x = true) : veGo N (x :: r) M = veGo N r (M + (arI x.op - 1)) := by
 show (if M = 0 then _ else _) = _
 rw [if_neg hM, if_pos hx]
theorem ve_pre {N : Int} : ∀ {t : Ex}, EV N t → ∀ (r : List Nd) (M : Int), 1 ≤ M → veGo N (pre t ++ r) M = veGo N r (M - 1)
 | .e0 x, h, r, M, hM => by
  show veGo N (x :: r) M = _
  rw [ve_cons r (by omega) h.2, h.1]
  rfl
 | .e1 x a, h, r, M, hM => by
  show veGo N (x :: (pre a ++ r)) M = _
  rw [ve_cons _ (by omega) h.1.2, h.1.1, ve_pre h.2 r _ (by omega)]
  congr 1
  omega
 | .e2 x a b, h, r, M, hM => by
  show veGo N (x :: ((pre a ++ pre b) ++ r)) M = _
  rw [ve_cons _ (by omega) h.1.2, h.1.1, List.append_assoc, ve_pre h.2.1 _ _ (by omega), ve_pre h.2.2 r _ (by omega)]
  congr 1
  omega
theorem ve_one {N : Int} {t : Ex} (h : EV N t) : veGo N (pre t) 1 = true := by
 have := ve_pre h [] 1 (by omega)
 rw [List.append_nil] at this
 rw [this]
 rfl
theorem one_ev (N : Int) : EV N (.e0 ⟨1, 0, 65536, 65536⟩) := ⟨by decide, by simp [vnB]; decide⟩
/-- What an emission of an instruction's expression adds to a list. -/
theorem of_emit' {N : Int} {L : List Is} (hv : VL N L) (P : List Is → Nat → Prop) (hm : ∀ {T T' : List Is} {k : Nat}, T <+: T' → P T k → P T' k) (hp : ∀ (T : List Is) (j k : Nat), j < L.length → Rep (trL L L.length j) T k → P T k) : ∀ f i : Nat, i < f → i < L.length → ∀ T : List Is, (∀ k : Nat, k < T.length → P T k) → ∀ k : Nat, k < (emitT (trL L f i) T).1.length → P (emitT (trL L f i) T).1 k := by
 intro f
 induction f with
 | zero => intro i h; omega
 | succ f ih =>
  intro i hi hL T hT k hk
  have hself := emit_rep (trL L (f + 1) i) T
  rw [tr_fuel hv hi hL hL] at hself
  obtain ⟨x, hx⟩ : ∃ x, L[i]? = some x := ⟨_, List.getElem?_eq_getElem hL⟩
  have hx' : L[(i : Int).toNat]? = some x := hx
  have key : ∀ (T' : List Is) (y : Is), (emitT (trL L (f + 1) i) T).1 = emitI T' y → (emitT (trL L (f + 1) i) T).2 = idxI (emitI T' y) y → (∀ k : Nat, k < T'.length → P T' k) → P (emitT (trL L (f + 1) i) T).1 k := by
   intro T' y e1 e2 h
   rw [tr_fuel hv hi hL hL] at e1 e2 hk ⊢
   rw [e1] at hk
   rcases emitI_len' T' y hk with h3 | ⟨h3, h4, h5, h6⟩
   ·rw [e1]
    exact hm (emitI_pre _ _) (h k h3)
   ·refine hp _ i k hL ?_
    rw [← h6, ← e2]
    exact hself
  rcases ops_cases (hv i x hx) with ⟨ho, _⟩ | ⟨ho, _, _, _, h1, h2⟩ | ⟨ho, _, _, h1, h2, h3, h4⟩
  ·have e : trL L (f + 1) i = .e0 (ndI x) := by rw [trL_at hx', ho]
   exact key T _ (by rw [e]; rfl) (by rw [e]; rfl) hT
  ·obtain ⟨a, ea⟩ : ∃ a : Nat, x.a = a := ⟨x.a.toNat, by omega⟩
   have e : trL L (f + 1) i = .e1 (ndI x) (trL L f a) := by rw [trL_at hx', ho, ea]
   exact key (emitT (trL L f a) T).1 _ (by rw [e]; rfl) (by rw [e]; rfl) (ih a (by omega) (by omega) T hT)
  ·obtain ⟨a, ea⟩ : ∃ a : Nat, x.a = a := ⟨x.a.toNat, by omega⟩
   obtain ⟨b, eb⟩ : ∃ b : Nat, x.b = b := ⟨x.b.toNat, by omega⟩
   have e : trL L (f + 1) i = .e2 (ndI x) (trL L f a) (trL L f b) := by rw [trL_at hx', ho, ea, eb]
   exact key (emitT (trL L f b) (emitT (trL L f a) T).1).1 _ (by rw [e]; rfl) (by rw [e]; rfl) (ih b (by omega) (by omega) _ (ih a (by omega) (by omega) T hT))
/-- A place of a system's list: an instruction of the tape, or 1. -/
def SysP (L T : List Is) (k : Nat) : Prop := ∃ i : Nat, i ≤ L.length ∧ Rep (if i < L.length then trL L L.length i else .e0 ⟨1, 0, 65536, 65536⟩) T k
theorem sys_emit {N : Int} {L T : List Is} (hv : VL N L) (h : ∀ k, k < T.length → SysP L T k) {i : Nat} (hi : i < L.length) : ∀ k, k < (emitT (sysT L i) T).1.length → SysP L (emitT (sysT L i) T).1 k := by
 have hm : ∀ {T T' : List Is} {k : Nat}, T <+: T' → SysP L T k → SysP L T' k := fun hp ⟨i, h1, h2⟩ => ⟨i, h1, rep_pre hp h2⟩
 unfold sysT
 split
 ·exact of_emit' hv (SysP L) hm (fun T j k hj hr => ⟨j, by omega, by rw [if_pos hj]; exact hr⟩) L.length i hi hi T h
 ·intro k hk
  rcases emitI_len' T _ hk with h3 | ⟨h3, h4, h5, h6⟩
  ·exact hm (emitT_pre _ T) (h k h3)
  ·refine ⟨L.length, Nat.le_refl _, ?_⟩
   rw [if_neg (by omega)]
   have := emit_rep (.e0 ⟨1, 0, 65536, 65536⟩) T
   rw [show (emitT (.e0 ⟨1, 0, 65536, 65536⟩) T).2 = k from h6] at this
   exact this
theorem sys_comp {N : Int} {L : List Is} (hv : VL N L) : ∀ (O : List Int) (T : List Is), (∀ y ∈ O, 0 ≤ y ∧ y < L.length) → T.Nodup → (∀ k, k < T.length → SysP L T k) → (compT (O.map (sysT L)) T).1.Nodup ∧ ∀ k, k < (compT (O.map (sysT L)) T).1.length → SysP L (compT (O.map (sysT L)) T).1 k
 | [], T, hO, hd, h => ⟨hd, h⟩
 | y :: O, T, hO, hd, h => by
  have hy := hO y (by simp)
  obtain ⟨i, rfl⟩ : ∃ i : Nat, y = i := ⟨y.toNat, by omega⟩
  exact sys_comp hv O _ (fun z hz => hO z (by simp [hz])) (emitT_nodup _ hd) (sys_emit hv h (by omega))
theorem sys_le {N : Int} {L : List Is} {O : List Int} (hv : VL N L) (hO : ∀ y ∈ O, 0 ≤ y ∧ y < L.length) : (compT (O.map (sysT L)) []).1.length ≤ L.length + 1 := by
 obtain ⟨h1, h2⟩ := sys_comp hv O [] hO List.nodup_nil (fun k h => by simp at h)
 refine pigeon (L.length + 1) _ (fun k i => Rep (if i < L.length then trL L L.length i else .e0 ⟨1, 0, 65536, 65536⟩) (compT (O.map (sysT L)) []).1 k) (fun k hk => ?_) (fun k j i ha hb => rep_inj h1 ha hb)
 obtain ⟨i, h3, h4⟩ := h2 k hk
 exact ⟨i, by omega, h4⟩
theorem sys_ev {N : Int} {L : List Is} {O : List Int} (hv : VL N L) (hO : ∀ y ∈ O, 0 ≤ y ∧ y < L.length) : ∀ t ∈ O.map (sysT L), EV N t := by
 intro t ht
 rw [List.mem_map] at ht
 obtain ⟨y, hy, rfl⟩ := ht
 have := hO y hy
 obtain ⟨i, rfl⟩ : ∃ i : Nat, y = i := ⟨y.toNat, by omega⟩
 unfold sysT
 split
 ·exact (tr_all hv _ i (by omega) (by omega)).2.1
 ·exact one_ev N
theorem sys_rows {N : Int} {L : List Is} {O : List Int} (hv : VL N L) (hO : ∀ y ∈ O, 0 ≤ y ∧ y < L.length) : O.map (rowS L) = (O.map (sysT L)).map pre := by
 rw [List.map_map]
 apply List.map_congr_left
 intro y hy
 have := hO y hy
 obtain ⟨i, rfl⟩ : ∃ i : Nat, y = i := ⟨y.toNat, by omega⟩
 exact rowS_pre hv (by omega)
theorem sys_200 {L : List Is} (y : Int) : (pre (sysT L y)).length ≤ 200 := by
 unfold sysT
 split
 ·assumption
 ·simp [pre]
theorem nms_len {m : Nat} (h : m ≤ 3) : (nms.take m).length = m := by
 rw [List.length_take]
 show min m 3 = m
 omega
theorem sys_syv {N : Int} {L : List Is} {O : List Int} (hv : VL N L) (hO : ∀ y ∈ O, 0 ≤ y ∧ y < L.length) (hN : (O.length : Int) = N) (h1 : 1 ≤ O.length) (h3 : O.length ≤ 3) : SyV (nms.take O.length) ((O.map (sysT L)).map pre) := by
 have hl := nms_len h3
 refine ⟨by rw [List.length_map, List.length_map, hl], by omega, by omega, ?_, ?_, ?_⟩
 ·intro s hs
  have hs := List.mem_of_mem_take hs
  simp [nms] at hs
  rcases hs with rfl | rfl | rfl
  ·exact nm_one 120 (by decide) (by decide)
  ·exact nm_one 121 (by decide) (by decide)
  ·exact nm_one 122 (by decide) (by decide)
 ·exact List.Nodup.sublist (List.take_sublist _ _) (by simp [nms])
 ·intro r hr
  rw [hl, hN]
  rw [List.mem_map] at hr
  obtain ⟨t, ht, rfl⟩ := hr
  have hev := sys_ev hv hO t ht
  unfold veB
  rw [ve_one hev, Bool.and_true]
  rw [List.mem_map] at ht
  obtain ⟨y, _, rfl⟩ := ht
  exact decide_eq_true (sys_200 y)
/-- The tape of a system, as one fact. -/
structure CmpF (T : List Is) (O : List Int) (m : Nat) (C : List Is) (oc : List Int) : Prop where
 eqn : compT (O.map (sysT T)) [] = (C, oc)
 val : tvB m C oc = true
 fix : optL C oc = (C, oc)
 len : C.length ≤ T.length + 1
 ol : oc.length = m
theorem cmpF {N : Nat} {T : List Is} {O : List Int} (htv : tvB N T O = true) (h40 : T.length ≤ 40) : CmpF T O O.length (compT (O.map (sysT T)) []).1 (compT (O.map (sysT T)) []).2 := by
 obtain ⟨hn1, hn6, h400, hon, hvl, hout⟩ := tv_cases htv
 have hvl : VL N T := hvl
 have hev := sys_ev hvl hout
 have hle := sys_le hvl hout
 have hol : (compT (O.map (sysT T)) []).2.length = O.length := by rw [comp_len, List.length_map]
 have hv2 : VL N (compT (O.map (sysT T)) []).1 := compT_vl hev (fun k x hx => by simp at hx)
 refine ⟨rfl, ?_, opt_fix hev, hle, hol⟩
 rw [hon]
 refine tv_of hn1 hn6 (by omega) (m := O.length) hon hol hv2 (fun y hy => ?_)
 have := comp_out y hy
 unfold ixB
 rw [decide_eq_true this.1, decide_eq_true this.2]
 rfl
end Go.Proofs.Ytajddejeglhbhaa
