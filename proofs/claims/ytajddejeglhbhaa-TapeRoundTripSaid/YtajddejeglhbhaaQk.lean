/-
  Systems of tapes; the law of compiled tapes.
-/
import Derived.Test.YtajddejeglhbhaaQj
import Derived.Test.YtajddejeglhbhaaUB
namespace Go.Proofs.Ytajddejeglhbhaa
open Go.ChangeShapes Go.WideShapes Go.ChangeAt Go.RowKit Go.Maps
set_option linter.unusedVariables false
set_option linter.unusedSimpArgs false
set_option maxRecDepth 100000
attribute [local irreducible] Calls
theorem nw_of {N : Int} {x : Nd} (h : vnB N x = true) (hN : N ≤ 6) : NW x := by
  obtain ⟨op, n, lo, hi⟩ := x
  unfold vnB at h
  dsimp only at h
  unfold NW W64
  dsimp only
  split at h
  · simp only [Bool.and_eq_true, decide_eq_true_eq] at h
    obtain ⟨ha, hv⟩ := h
    unfold VI Ent Num at hv
    omega
  · split at h
    · simp only [Bool.and_eq_true, decide_eq_true_eq] at h
      omega
    · split at h
      · simp only [Bool.and_eq_true, decide_eq_true_eq] at h
        omega
      · cases h
theorem ev_nodes {N : Int} : ∀ {t : Ex}, EV N t → ∀ y ∈ pre t, vnB N y = true
  | .e0 x, h, y, hy => by
    simp [pre] at hy
    subst hy
    exact h.2
  | .e1 x a, h, y, hy => by
    simp [pre] at hy
    rcases hy with rfl | hy
    · exact h.1.2
    · exact ev_nodes h.2 y hy
  | .e2 x a b, h, y, hy => by
    simp [pre] at hy
    rcases hy with rfl | hy | hy
    · exact h.1.2
    · exact ev_nodes h.2.1 y hy
    · exact ev_nodes h.2.2 y hy
theorem ve_cons {N : Int} {x : Nd} (r : List Nd) {M : Int} (hM : M ≠ 0) (hx : vnB N x = true) : veGo N (x :: r) M = veGo N r (M + (arI x.op - 1)) := by
  show (if M = 0 then _ else _) = _
  rw [if_neg hM, if_pos hx]
theorem ve_pre {N : Int} : ∀ {t : Ex}, EV N t → ∀ (r : List Nd) (M : Int), 1 ≤ M → veGo N (pre t ++ r) M = veGo N r (M - 1)
  | .e0 x, h, r, M, hM => by
    show veGo N (x :: r) M = _
    rw [ve_cons r (by omega) h.2, h.1]
    rfl
  | .e1 x a, h, r, M, hM => by
    show veGo N (x :: (pre a ++ r)) M = _
    rw [ve_cons _ (by omega) h.1.2, h.1.1, ve_pre h.2 r _ (by omega)]
    congr 1
    omega
  | .e2 x a b, h, r, M, hM => by
    show veGo N (x :: ((pre a ++ pre b) ++ r)) M = _
    rw [ve_cons _ (by omega) h.1.2, h.1.1, List.append_assoc, ve_pre h.2.1 _ _ (by omega), ve_pre h.2.2 r _ (by omega)]
    congr 1
    omega
theorem ve_one {N : Int} {t : Ex} (h : EV N t) : veGo N (pre t) 1 = true := by
  have := ve_pre h [] 1 (by omega)
  rw [List.append_nil] at this
  rw [this]
  rfl
theorem one_ev (N : Int) : EV N (.e0 ⟨1, 0, 65536, 65536⟩) := ⟨by decide, by simp [vnB]; decide⟩
/-- What an emission of an instruction's expression adds to a list. -/
theorem of_emit' {N : Int} {L : List Is} (hv : VL N L) (P : List Is → Nat → Prop) (hm : ∀ {T T' : List Is} {k : Nat}, T <+: T' → P T k → P T' k) (hp : ∀ (T : List Is) (j k : Nat), j < L.length → Rep (trL L L.length j) T k → P T k) : ∀ f i : Nat, i < f → i < L.length → ∀ T : List Is, (∀ k : Nat, k < T.length → P T k) → ∀ k : Nat, k < (emitT (trL L f i) T).1.length → P (emitT (trL L f i) T).1 k := by
  intro f
  induction f with
  | zero => intro i h; omega
  | succ f ih =>
    intro i hi hL T hT k hk
    have hself := emit_rep (trL L (f + 1) i) T
    rw [tr_fuel hv hi hL hL] at hself
    obtain ⟨x, hx⟩ : ∃ x, L[i]? = some x := ⟨_, List.getElem?_eq_getElem hL⟩
    have hx' : L[(i : Int).toNat]? = some x := hx
    have key : ∀ (T' : List Is) (y : Is), (emitT (trL L (f + 1) i) T).1 = emitI T' y → (emitT (trL L (f + 1) i) T).2 = idxI (emitI T' y) y → (∀ k : Nat, k < T'.length → P T' k) → P (emitT (trL L (f + 1) i) T).1 k := by
      intro T' y e1 e2 h
      rw [tr_fuel hv hi hL hL] at e1 e2 hk ⊢
      rw [e1] at hk
      rcases emitI_len' T' y hk with h3 | ⟨h3, h4, h5, h6⟩
      · rw [e1]
        exact hm (emitI_pre _ _) (h k h3)
      · refine hp _ i k hL ?_
        rw [← h6, ← e2]
        exact hself
    rcases ops_cases (hv i x hx) with ⟨ho, _⟩ | ⟨ho, _, _, _, h1, h2⟩ | ⟨ho, _, _, h1, h2, h3, h4⟩
    · have e : trL L (f + 1) i = .e0 (ndI x) := by rw [trL_at hx', ho]
      exact key T _ (by rw [e]; rfl) (by rw [e]; rfl) hT
    · obtain ⟨a, ea⟩ : ∃ a : Nat, x.a = a := ⟨x.a.toNat, by omega⟩
      have e : trL L (f + 1) i = .e1 (ndI x) (trL L f a) := by rw [trL_at hx', ho, ea]
      exact key (emitT (trL L f a) T).1 _ (by rw [e]; rfl) (by rw [e]; rfl) (ih a (by omega) (by omega) T hT)
    · obtain ⟨a, ea⟩ : ∃ a : Nat, x.a = a := ⟨x.a.toNat, by omega⟩
      obtain ⟨b, eb⟩ : ∃ b : Nat, x.b = b := ⟨x.b.toNat, by omega⟩
      have e : trL L (f + 1) i = .e2 (ndI x) (trL L f a) (trL L f b) := by rw [trL_at hx', ho, ea, eb]
      exact key (emitT (trL L f b) (emitT (trL L f a) T).1).1 _ (by rw [e]; rfl) (by rw [e]; rfl) (ih b (by omega) (by omega) _ (ih a (by omega) (by omega) T hT))
/-- A place of a system's list: an instruction of the tape, or 1. -/
def SysP (L T : List Is) (k : Nat) : Prop := ∃ i : Nat, i ≤ L.length ∧ Rep (if i < L.length then trL L L.length i else .e0 ⟨1, 0, 65536, 65536⟩) T k
theorem sys_emit {N : Int} {L T : List Is} (hv : VL N L) (h : ∀ k, k < T.length → SysP L T k) {i : Nat} (hi : i < L.length) : ∀ k, k < (emitT (sysT L i) T).1.length → SysP L (emitT (sysT L i) T).1 k := by
  have hm : ∀ {T T' : List Is} {k : Nat}, T <+: T' → SysP L T k → SysP L T' k := fun hp ⟨i, h1, h2⟩ => ⟨i, h1, rep_pre hp h2⟩
  unfold sysT
  split
  · exact of_emit' hv (SysP L) hm (fun T j k hj hr => ⟨j, by omega, by rw [if_pos hj]; exact hr⟩) L.length i hi hi T h
  · intro k hk
    rcases emitI_len' T _ hk with h3 | ⟨h3, h4, h5, h6⟩
    · exact hm (emitT_pre _ T) (h k h3)
    · refine ⟨L.length, Nat.le_refl _, ?_⟩
      rw [if_neg (by omega)]
      have := emit_rep (.e0 ⟨1, 0, 65536, 65536⟩) T
      rw [show (emitT (.e0 ⟨1, 0, 65536, 65536⟩) T).2 = k from h6] at this
      exact this
theorem sys_comp {N : Int} {L : List Is} (hv : VL N L) : ∀ (O : List Int) (T : List Is), (∀ y ∈ O, 0 ≤ y ∧ y < L.length) → T.Nodup → (∀ k, k < T.length → SysP L T k) → (compT (O.map (sysT L)) T).1.Nodup ∧ ∀ k, k < (compT (O.map (sysT L)) T).1.length → SysP L (compT (O.map (sysT L)) T).1 k
  | [], T, hO, hd, h => ⟨hd, h⟩
  | y :: O, T, hO, hd, h => by
    have hy := hO y (by simp)
    obtain ⟨i, rfl⟩ : ∃ i : Nat, y = i := ⟨y.toNat, by omega⟩
    exact sys_comp hv O _ (fun z hz => hO z (by simp [hz])) (emitT_nodup _ hd) (sys_emit hv h (by omega))
theorem sys_le {N : Int} {L : List Is} {O : List Int} (hv : VL N L) (hO : ∀ y ∈ O, 0 ≤ y ∧ y < L.length) : (compT (O.map (sysT L)) []).1.length ≤ L.length + 1 := by
  obtain ⟨h1, h2⟩ := sys_comp hv O [] hO List.nodup_nil (fun k h => by simp at h)
  refine pigeon (L.length + 1) _ (fun k i => Rep (if i < L.length then trL L L.length i else .e0 ⟨1, 0, 65536, 65536⟩) (compT (O.map (sysT L)) []).1 k) (fun k hk => ?_) (fun k j i ha hb => rep_inj h1 ha hb)
  obtain ⟨i, h3, h4⟩ := h2 k hk
  exact ⟨i, by omega, h4⟩
theorem sys_ev {N : Int} {L : List Is} {O : List Int} (hv : VL N L) (hO : ∀ y ∈ O, 0 ≤ y ∧ y < L.length) : ∀ t ∈ O.map (sysT L), EV N t := by
  intro t ht
  rw [List.mem_map] at ht
  obtain ⟨y, hy, rfl⟩ := ht
  have := hO y hy
  obtain ⟨i, rfl⟩ : ∃ i : Nat, y = i := ⟨y.toNat, by omega⟩
  unfold sysT
  split
  · exact (tr_all hv _ i (by omega) (by omega)).2.1
  · exact one_ev N
theorem sys_rows {N : Int} {L : List Is} {O : List Int} (hv : VL N L) (hO : ∀ y ∈ O, 0 ≤ y ∧ y < L.length) : O.map (rowS L) = (O.map (sysT L)).map pre := by
  rw [List.map_map]
  apply List.map_congr_left
  intro y hy
  have := hO y hy
  obtain ⟨i, rfl⟩ : ∃ i : Nat, y = i := ⟨y.toNat, by omega⟩
  exact rowS_pre hv (by omega)
theorem sys_200 {L : List Is} (y : Int) : (pre (sysT L y)).length ≤ 200 := by
  unfold sysT
  split
  · assumption
  · simp [pre]
theorem nms_len {m : Nat} (h : m ≤ 3) : (nms.take m).length = m := by
  rw [List.length_take]
  show min m 3 = m
  omega
theorem sys_syv {N : Int} {L : List Is} {O : List Int} (hv : VL N L) (hO : ∀ y ∈ O, 0 ≤ y ∧ y < L.length) (hN : (O.length : Int) = N) (h1 : 1 ≤ O.length) (h3 : O.length ≤ 3) : SyV (nms.take O.length) ((O.map (sysT L)).map pre) := by
  have hl := nms_len h3
  refine ⟨by rw [List.length_map, List.length_map, hl], by omega, by omega, ?_, ?_, ?_⟩
  · intro s hs
    have hs := List.mem_of_mem_take hs
    simp [nms] at hs
    rcases hs with rfl | rfl | rfl
    · exact nm_one 120 (by decide) (by decide)
    · exact nm_one 121 (by decide) (by decide)
    · exact nm_one 122 (by decide) (by decide)
  · exact List.Nodup.sublist (List.take_sublist _ _) (by simp [nms])
  · intro r hr
    rw [hl, hN]
    rw [List.mem_map] at hr
    obtain ⟨t, ht, rfl⟩ := hr
    have hev := sys_ev hv hO t ht
    unfold veB
    rw [ve_one hev, Bool.and_true]
    rw [List.mem_map] at ht
    obtain ⟨y, _, rfl⟩ := ht
    exact decide_eq_true (sys_200 y)
/-- The tape of a system, as one fact. -/
structure CmpF (T : List Is) (O : List Int) (m : Nat) (C : List Is) (oc : List Int) : Prop where
  eqn : compT (O.map (sysT T)) [] = (C, oc)
  val : tvB m C oc = true
  fix : optL C oc = (C, oc)
  len : C.length ≤ T.length + 1
  ol : oc.length = m
theorem cmpF {N : Nat} {T : List Is} {O : List Int} (htv : tvB N T O = true) (h40 : T.length ≤ 40) : CmpF T O O.length (compT (O.map (sysT T)) []).1 (compT (O.map (sysT T)) []).2 := by
  obtain ⟨hn1, hn6, h400, hon, hvl, hout⟩ := tv_cases htv
  have hvl : VL N T := hvl
  have hev := sys_ev hvl hout
  have hle := sys_le hvl hout
  have hol : (compT (O.map (sysT T)) []).2.length = O.length := by rw [comp_len, List.length_map]
  have hv2 : VL N (compT (O.map (sysT T)) []).1 := compT_vl hev (fun k x hx => by simp at hx)
  refine ⟨rfl, ?_, opt_fix hev, hle, hol⟩
  rw [hon]
  refine tv_of hn1 hn6 (by omega) (m := O.length) hon hol hv2 (fun y hy => ?_)
  have := comp_out y hy
  unfold ixB
  rw [decide_eq_true this.1, decide_eq_true this.2]
  rfl
theorem sys_compile (pn : Option Addr) (cn : Nat) (vf : Value) (T : List Is) (O : List Int) (N : Nat) (w : World) (htv : tvB N T O = true) (hN : N ≤ 3) (h40 : T.length ≤ 40) (hn : Sx w (.slice pn O.length cn) (nms.take O.length)) (hc : O.length ≤ cn) (hf : Lx NxO w vf (O.map (rowS T))) :
    Calls Try.prog 17 #[.agg #[.slice pn O.length cn, vf]] w fun e w' => ∃ u r, e = .returned (.agg #[.int .i64 O.length, u, r]) ∧ Ix w' u (compT (O.map (sysT T)) []).1 ∧ Px w' r (compT (O.map (sysT T)) []).2 ∧ Below w.heap.size w w' := by
  obtain ⟨hn1, hn6, h400, hon, hvl, hout⟩ := tv_cases htv
  have hvl : VL N T := hvl
  have hnl := nms_len (m := O.length) (by omega)
  have hev := sys_ev hvl hout
  have hle := sys_le hvl hout
  rw [sys_rows hvl hout] at hf
  have h := comp_at pn cn vf (nms.take O.length) (O.map (sysT T)) (compT (O.map (sysT T)) []).1 (compT (O.map (sysT T)) []).2 O.length w (by rw [hnl]; exact hn) (by rw [hnl]; exact hc) hf (sys_syv hvl hout hon (by omega) (by omega)) (fun t ht => (hev t ht).ar) (fun t ht y hy => nw_of (ev_nodes (hev t ht) y hy) (by omega)) (by omega) rfl (by rw [List.length_map])
  rw [hnl] at h
  exact h
theorem opt_cut (n : Int) (vl vo : Value) (C : List Is) (oc : List Int) (w : World) (hl : Ix w vl C) (ho : Px w vo oc) (htv : tvB n C oc = true) (hR : optL C oc = (C, oc)) :
    Calls Try.prog 19 #[.agg #[.int .i64 n, vl, vo]] w fun e w' => ∃ p q c d, e = .returned (.agg #[.int .i64 n, .slice p C.length c, .slice q oc.length d]) ∧ Ix w' (.slice p C.length c) C ∧ Px w' (.slice q oc.length d) oc ∧ Below w.heap.size w w' := by
  refine (opt_at n vl vo C C oc oc w hl ho htv hR).mono ?_
  rintro e w' ⟨u, r, rfl, h1, h2, h3⟩
  obtain ⟨p, c, rfl⟩ := h1.cut
  obtain ⟨q, d, rfl⟩ := h2.cut
  exact ⟨p, q, c, d, rfl, h1, h2, h3⟩
set_option maxHeartbeats 32000000 in
theorem tcnf (w : World) (vL vO vX : Value) (n0 lo hi : Int) (Lr : List Is) (outr : List Int) (Xr : List (Int × Int)) (hL : Ix w vL Lr ∧ ∀ x ∈ Lr, IW x) (hO : Px w vO outr ∧ ∀ x ∈ outr, W64 x) (hX : Vx w vX Xr ∧ ∀ q ∈ Xr, W64 q.1 ∧ W64 q.2) (hn : W64 n0) (hlo : W64 lo) (hhi : W64 hi) :
    Calls Try.prog 7 #[.agg #[.int .i64 n0, vL, vO, vX, .int .i64 lo, .int .i64 hi]] w fun e w' => e = .returned (.bool true) ∧ Below w.heap.size w w' := by
  obtain ⟨pl, cl, rfl⟩ := hL.1.cut
  obtain ⟨po, co, rfl⟩ := hO.1.cut
  obtain ⟨px, cx, rfl⟩ := hX.1.cut
  have hE : Below w.heap.size w (w.alloc (.cells #[.int .i64 n0, .slice pl Lr.length cl, .slice po outr.length co, .slice px Xr.length cx, .int .i64 lo, .int .i64 hi] 30)) := (Below.refl _ _).alloc (Nat.le_refl _) _
  have HQ := Lib.hid (show Blk (w.alloc (.cells #[.int .i64 n0, .slice pl Lr.length cl, .slice po outr.length co, .slice px Xr.length cx, .int .i64 lo, .int .i64 hi] 30)) w.heap.size (.cells #[.int .i64 n0, .slice pl Lr.length cl, .slice po outr.length co, .slice px Xr.length cx, .int .i64 lo, .int .i64 hi] 30) from World.alloc_heap_new w _)
  have HL := Lib.hid (hL.1.grow hE)
  have HO := Lib.hid (hO.1.grow hE)
  have HW := Lib.hid hE
  clear hE hL hO hX hn hlo hhi
  go_enter Try.func7, Try.ntmps7
  go_wp2_with (fail)
  refine (sanity8 _).mono ?_
  rintro e w1 ⟨rfl, hB⟩
  have HQ := Lib.hid (HQ.out.grow hB)
  have HL := Lib.hid (HL.out.grow hB)
  have HO := Lib.hid (HO.out.grow hB)
  have HW := Lib.hid (below_then HW.out hB)
  clear hB
  have q0 := heapN_cellj HQ.out (k := 0) rfl
  have q1 := heapN_cellj HQ.out (k := 1) rfl
  have q2 := heapN_cellj HQ.out (k := 2) rfl
  go_wp2_with (fail)
  refine (made8_ok n0 _ _ Lr outr 25 _ HL.out HO.out (by decide) (by decide)).mono ?_
  rintro e w2 ⟨N, T, O, u, r, rfl, hu, hr, htv, hN3, hT1, hT25, hB⟩
  have HTV := Lib.hid htv
  obtain ⟨hn1, hn6, h400, hon, _, _⟩ := tv_cases htv
  obtain ⟨m, hm⟩ : ∃ m, O.length = m := ⟨_, rfl⟩
  have hNm : N = m := by omega
  subst hNm
  have HM := Lib.hid hm
  have HUT := Lib.hid (Rx.own encI_len hu (by unfold maxLen; omega))
  have HRO := Lib.hid (Rx.own (enc := enc1) (fun _ => rfl) hr (by unfold maxLen; omega))
  have HW := Lib.hid (below_then HW.out hB)
  clear hB hu hr htv q0 q1 q2 HQ HL HO hon hm hn1 hn6 h400
  go_wp2_with (fail)
  refine (system_ok N u r T O _ HUT.out HRO.out HTV.out (by omega)).mono ?_
  rintro e w3 ⟨pn, cn, vf, rfl, hsx, hcn, hlx, hB⟩
  obtain ⟨pf, cf, hvf⟩ := hlx.cut
  rw [List.length_map, HM.out] at hvf
  subst hvf
  have KC := Lib.hid (fun w a b => sys_compile pn cn (.slice pf N cf) T O N w HTV.out hN3 (by omega) a hcn b)
  have hcf := cmpF HTV.out (by omega)
  obtain ⟨⟨C, oc⟩, hC⟩ : ∃ R, compT (O.map (sysT T)) [] = R := ⟨_, rfl⟩
  rw [hC] at KC hcf
  rw [HM.out] at KC hcf hsx hcn ⊢
  dsimp only at KC hcf
  have HCF := Lib.hid hcf
  have hS : Below w3.heap.size w3 (w3.alloc (.cells #[.slice pn N cn, .slice pf N cf] 38)) := (Below.refl _ _).alloc (Nat.le_refl _) _
  have HS := Lib.hid (show Blk (w3.alloc (.cells #[.slice pn N cn, .slice pf N cf] 38)) w3.heap.size (.cells #[.slice pn N cn, .slice pf N cf] 38) from World.alloc_heap_new w3 _)
  have HSX := Lib.hid (hsx.grow hS)
  have HLX := Lib.hid (hlx.grow grows_nxo hS)
  have HW := Lib.hid (below_then (below_then HW.out hB) hS)
  clear hB hS hsx hlx hcf hC HUT HRO
  go_wp2_with (fail)
  refine (KC.out _ HSX.out HLX.out).mono ?_
  rintro e w4 ⟨uc, rc, rfl, hic, hpc, hB⟩
  have HOL := Lib.hid (HCF.out.ol)
  obtain ⟨p1, c1, rfl⟩ := hic.cut
  obtain ⟨p2, c2, rfl⟩ := hpc.cut
  have hS : Below w4.heap.size w4 (w4.alloc (.cells #[.int .i64 N, .slice p1 C.length c1, .slice p2 oc.length c2] 25)) := (Below.refl _ _).alloc (Nat.le_refl _) _
  have HC := Lib.hid (show Blk (w4.alloc (.cells #[.int .i64 N, .slice p1 C.length c1, .slice p2 oc.length c2] 25)) w4.heap.size (.cells #[.int .i64 N, .slice p1 C.length c1, .slice p2 oc.length c2] 25) from World.alloc_heap_new w4 _)
  have HS := Lib.hid ((HS.out.grow hB).grow hS)
  have HIC := Lib.hid (hic.grow hS)
  have HPC := Lib.hid (hpc.grow hS)
  have HW := Lib.hid (below_then (below_then HW.out hB) hS)
  clear hB hS hic hpc KC HSX HLX
  go_wp2_with (fail)
  generalize hWc : World.alloc w4 _ = W5 at *
  clear hWc
  have k0 := fun g : Grown W5 => heapN_cellj (HC.out.grow g.h) (k := 0) rfl
  have k1 := fun g : Grown W5 => heapN_cellj (HC.out.grow g.h) (k := 1) rfl
  have k2 := fun g : Grown W5 => heapN_cellj (HC.out.grow g.h) (k := 2) rfl
  refine region_pred (lk [(14, fun z_ _ => z_ = .agg #[.int .i64 N, .slice p1 C.length c1, .slice p2 oc.length c2]), (15, fun z_ _ => z_ = .bool true), (16, fun z_ _ => z_ = .bool false), (17, fun z_ _ => z_ = .bool false), (18, fun z_ _ => z_ = .agg #[.int .i64 N, .slice p1 C.length c1, .slice p2 oc.length c2]), (19, fun z_ w' => ∃ p_ q_ c_ d_, z_ = .agg #[.int .i64 N, .slice p_ C.length c_, .slice q_ oc.length d_] ∧ Ix w' (.slice p_ C.length c_) C ∧ Px w' (.slice q_ oc.length d_) oc), (20, fun z_ _ => z_ = .agg #[.int .i64 N, .slice p1 C.length c1, .slice p2 oc.length c2]), (21, fun z_ _ => z_ = .bool true), (22, fun z_ _ => z_ = .bool false), (23, fun z_ _ => z_ = .bool false)]) (by kernel_rfl) (by kernel_rfl) (lk_steady _ ⟨steady_eq _, steady_eq _, steady_eq _, steady_eq _, steady_eq _, fun u w1 w2 hb ⟨p, q, c, d, e, h1, h2⟩ => ⟨p, q, c, d, e, h1.grow hb, h2.grow hb⟩, steady_eq _, steady_eq _, steady_eq _, steady_eq _, trivial⟩) ?_ ?_
  · refine ⟨?_, ?_, ?_, ?_, ?_, ?_, ?_, ?_, ?_, ?_, trivial⟩
    · refine ob_plain [5] rfl rfl fun aa g h => ?_
      have yy0 := seen_out (v := .pointer (some ⟨w4.heap.size, 0, none⟩)) rfl rfl h.1
      have ee0 := getD_of yy0
      exact tupon_value (v := .agg #[.int .i64 N, .slice p1 C.length c1, .slice p2 oc.length c2]) (by simp [go_sem, ee0, yy0, k0 g, k1 g, k2 g]) (Below.refl _ _) rfl
    · refine ob_plain [14] rfl rfl fun aa g h => ?_
      obtain ⟨_, yy0, rfl⟩ := seen_in rfl h.1
      have ee0 := getD_of yy0
      refine tupon_enter (f := 27) (args := #[.agg #[.int .i64 N, .slice p1 C.length c1, .slice p2 oc.length c2]]) (by simp [go_sem, ee0, yy0]) rfl ?_
      exact (valid_at N _ _ C oc true g.w (HIC.out.grow g.h) (HPC.out.grow g.h) HCF.out.val).mono fun e w' ⟨he, hB⟩ => ⟨_, he, hB, rfl⟩
    · refine ob_plain [15] rfl rfl fun aa g h => ?_
      obtain ⟨_, yy0, rfl⟩ := seen_in rfl h.1
      have ee0 := getD_of yy0
      exact tupon_value (v := .bool false) (by simp [go_sem, ee0, yy0]) (Below.refl _ _) rfl
    · refine ob_plain [16] rfl rfl fun aa g h => ?_
      obtain ⟨_, yy0, rfl⟩ := seen_in rfl h.1
      have ee0 := getD_of yy0
      exact tupon_value (v := .bool false) (by simp [go_sem, ee0, yy0]) (Below.refl _ _) rfl
    · refine ob_gtrue [5] _ false 17 rfl rfl rfl rfl (fun v w h => h) fun aa g h => ?_
      have yy0 := seen_out (v := .pointer (some ⟨w4.heap.size, 0, none⟩)) rfl rfl h.1
      have ee0 := getD_of yy0
      exact tupon_value (v := .agg #[.int .i64 N, .slice p1 C.length c1, .slice p2 oc.length c2]) (by simp [go_sem, ee0, yy0, k0 g, k1 g, k2 g]) (Below.refl _ _) rfl
    · refine ob_gtrue [18] _ false 17 rfl rfl rfl rfl (fun v w h => h) fun aa g h => ?_
      obtain ⟨_, yy0, rfl⟩ := seen_in rfl h.1
      have ee0 := getD_of yy0
      refine tupon_enter (f := 19) (args := #[.agg #[.int .i64 N, .slice p1 C.length c1, .slice p2 oc.length c2]]) (by simp [go_sem, ee0, yy0]) rfl ?_
      exact (opt_cut N _ _ C oc g.w (HIC.out.grow g.h) (HPC.out.grow g.h) HCF.out.val HCF.out.fix).mono fun e w' ⟨p, q, c, d, he, hi, hp, hB⟩ => ⟨_, he, hB, ⟨p, q, c, d, rfl, hi, hp⟩⟩
    · refine ob_gtrue [5] _ false 17 rfl rfl rfl rfl (fun v w h => h) fun aa g h => ?_
      have yy0 := seen_out (v := .pointer (some ⟨w4.heap.size, 0, none⟩)) rfl rfl h.1
      have ee0 := getD_of yy0
      exact tupon_value (v := .agg #[.int .i64 N, .slice p1 C.length c1, .slice p2 oc.length c2]) (by simp [go_sem, ee0, yy0, k0 g, k1 g, k2 g]) (Below.refl _ _) rfl
    · refine ob_gtrue [19, 20] _ false 17 rfl rfl rfl rfl (fun v w h => h) fun aa g h => ?_
      obtain ⟨_, yy0, ⟨p9, q9, c9, d9, rfl, hi9, hp9⟩⟩ := seen_in rfl h.1
      have ee0 := getD_of yy0
      obtain ⟨_, yy1, rfl⟩ := seen_in rfl h.2.1
      have ee1 := getD_of yy1
      refine tupon_enter (f := 26) (args := #[.agg #[.int .i64 N, .slice p9 C.length c9, .slice q9 oc.length d9], .agg #[.int .i64 N, .slice p1 C.length c1, .slice p2 oc.length c2]]) (by simp [go_sem, ee0, yy0, ee1, yy1]) rfl ?_
      exact (tsame_ok N _ _ _ _ C oc g.w hi9 hp9 (HIC.out.grow g.h) (HPC.out.grow g.h)).mono fun e w' ⟨he, hB⟩ => ⟨_, he, hB, rfl⟩
    · refine ob_gtrue [21] _ false 17 rfl rfl rfl rfl (fun v w h => h) fun aa g h => ?_
      obtain ⟨_, yy0, rfl⟩ := seen_in rfl h.1
      have ee0 := getD_of yy0
      exact tupon_value (v := .bool false) (by simp [go_sem, ee0, yy0]) (Below.refl _ _) rfl
    · refine ob_plain [17, 22] rfl rfl fun aa g h => ?_
      obtain ⟨_, yy0, rfl⟩ := seen_in rfl h.1
      have ee0 := getD_of yy0
      obtain ⟨_, yy1, rfl⟩ := seen_in rfl h.2.1
      have ee1 := getD_of yy1
      exact tupon_value (v := .bool false) (by simp [go_sem, ee0, yy0, ee1, yy1]) (Below.refl _ _) rfl
  rintro w6 hB _ rfl _ rfl _ rfl _ rfl _ rfl _ ⟨p9, q9, c9, d9, rfl, hi9, hp9⟩ _ rfl _ rfl _ rfl _ rfl
  simp only [Act.put, List.setIfInBounds_toArray, List.set_cons_succ, List.set_cons_zero, List.filterMap_nil, finP]
  have HC := Lib.hid (HC.out.grow hB)
  have HS := Lib.hid (HS.out.grow hB)
  have HIC := Lib.hid (HIC.out.grow hB)
  have HW := Lib.hid (below_then HW.out hB)
  have HVL := Lib.hid (fun k x hx => (tv_cases HCF.out.val).2.2.2.2.1 k x hx)
  have hcl : C.length ≤ 400 := (tv_cases HCF.out.val).2.2.1
  clear hB k0 k1 k2 hi9 hp9
  go_wp2_with (fail)
  go_loopw [6] (fun i wr => ∃ k : Nat, i = .int .i64 k ∧ k ≤ C.length ∧ Hid (Below w6.heap.size w6 wr)) (fun i _ => C.length - (intOf i).toNat)
  case atStart => exact ⟨0, rfl, Nat.zero_le _, Lib.hid (Below.refl _ _)⟩
  case round =>
    obtain ⟨k, rfl, hk, HB⟩ := hrel
    have l0 := heapN_cellj (HC.out.grow HB.out) (k := 0) rfl
    have l1 := heapN_cellj (HC.out.grow HB.out) (k := 1) rfl
    by_cases hlt : k < C.length
    · have i2 : (k : Int) < C.length := by omega
      obtain ⟨⟨op, a, b, lo', hi'⟩, hx⟩ : ∃ x, C[k]? = some x := ⟨_, List.getElem?_eq_getElem hlt⟩
      obtain ⟨bl, ol, rfl, hbl, rdl⟩ := is_rd HIC.out hx
      obtain ⟨f0, f1, f2, f3, f4⟩ := rdl ⟨wr, HB.out⟩
      dsimp only at f0 f1 f2 f3 f4
      have hvx := HVL.out k _ hx
      have hcs := vin_cases hvx
      dsimp only at hcs
      have hopb : 1 ≤ op ∧ op ≤ 10 := by omega
      have hrc := raI_cases hopb.1 hopb.2
      have KA := Lib.hid (fun w => rarity_ok op w)
      have HRD := Lib.hid rdl
      clear rdl hx hvx
      rcases hrc with ⟨ho, hr⟩ | ⟨ho, hr⟩ | ⟨ho, hr⟩
      · rw [hr] at KA
        clear hr ho hcs hopb
        go_wp2_with (fail)
        refine (KA.out _).mono ?_
        rintro e w7 ⟨rfl, hB⟩
        have HB7 := Lib.hid (HB.out.trans (hB.mono HB.out.size))
        clear hB l0 l1 f0 f1 f2 f3 f4
        have l1 := heapN_cellj (HC.out.grow HB7.out) (k := 1) rfl
        have l0 := heapN_cellj (HC.out.grow HB7.out) (k := 0) rfl
        obtain ⟨f0, f1, f2, f3, f4⟩ := HRD.out ⟨w7, HB7.out⟩
        dsimp only at f0 f1 f2 f3 f4
        go_wp2_with (fail)
        refine (KA.out _).mono ?_
        rintro e w8 ⟨rfl, hB⟩
        have HB7 := Lib.hid (HB7.out.trans (hB.mono HB7.out.size))
        clear hB l0 l1 f0 f1 f2 f3 f4
        have l1 := heapN_cellj (HC.out.grow HB7.out) (k := 1) rfl
        have l0 := heapN_cellj (HC.out.grow HB7.out) (k := 0) rfl
        obtain ⟨f0, f1, f2, f3, f4⟩ := HRD.out ⟨w8, HB7.out⟩
        dsimp only at f0 f1 f2 f3 f4
        go_wp2_with (fail)
        go_roundw
        case rel => exact ⟨k + 1, by go_num, by omega, HB7⟩
        case measure => simp [intOf]; omega
      · rw [hr] at KA
        have ia : ¬ a ≥ (k : Int) := by omega
        clear hr ho hcs hopb
        go_wp2_with (fail)
        refine (KA.out _).mono ?_
        rintro e w7 ⟨rfl, hB⟩
        have HB7 := Lib.hid (HB.out.trans (hB.mono HB.out.size))
        clear hB l0 l1 f0 f1 f2 f3 f4
        have l1 := heapN_cellj (HC.out.grow HB7.out) (k := 1) rfl
        have l0 := heapN_cellj (HC.out.grow HB7.out) (k := 0) rfl
        obtain ⟨f0, f1, f2, f3, f4⟩ := HRD.out ⟨w7, HB7.out⟩
        dsimp only at f0 f1 f2 f3 f4
        go_wp2_with (fail)
        refine (KA.out _).mono ?_
        rintro e w8 ⟨rfl, hB⟩
        have HB7 := Lib.hid (HB7.out.trans (hB.mono HB7.out.size))
        clear hB l0 l1 f0 f1 f2 f3 f4
        have l1 := heapN_cellj (HC.out.grow HB7.out) (k := 1) rfl
        have l0 := heapN_cellj (HC.out.grow HB7.out) (k := 0) rfl
        obtain ⟨f0, f1, f2, f3, f4⟩ := HRD.out ⟨w8, HB7.out⟩
        dsimp only at f0 f1 f2 f3 f4
        go_wp2_with (fail)
        go_roundw
        case rel => exact ⟨k + 1, by go_num, by omega, HB7⟩
        case measure => simp [intOf]; omega
      · rw [hr] at KA
        have ia : ¬ a ≥ (k : Int) := by omega
        have ib : ¬ b ≥ (k : Int) := by omega
        clear hr ho hcs hopb
        go_wp2_with (fail)
        refine (KA.out _).mono ?_
        rintro e w7 ⟨rfl, hB⟩
        have HB7 := Lib.hid (HB.out.trans (hB.mono HB.out.size))
        clear hB l0 l1 f0 f1 f2 f3 f4
        have l1 := heapN_cellj (HC.out.grow HB7.out) (k := 1) rfl
        have l0 := heapN_cellj (HC.out.grow HB7.out) (k := 0) rfl
        obtain ⟨f0, f1, f2, f3, f4⟩ := HRD.out ⟨w7, HB7.out⟩
        dsimp only at f0 f1 f2 f3 f4
        go_wp2_with (fail)
        refine (KA.out _).mono ?_
        rintro e w8 ⟨rfl, hB⟩
        have HB7 := Lib.hid (HB7.out.trans (hB.mono HB7.out.size))
        clear hB l0 l1 f0 f1 f2 f3 f4
        have l1 := heapN_cellj (HC.out.grow HB7.out) (k := 1) rfl
        have l0 := heapN_cellj (HC.out.grow HB7.out) (k := 0) rfl
        obtain ⟨f0, f1, f2, f3, f4⟩ := HRD.out ⟨w8, HB7.out⟩
        dsimp only at f0 f1 f2 f3 f4
        go_wp2_with (fail)
        go_roundw
        case rel => exact ⟨k + 1, by go_num, by omega, HB7⟩
        case measure => simp [intOf]; omega
    · obtain rfl : k = C.length := by omega
      have i2 : ¬ (C.length : Int) < C.length := by omega
      have s1 := heapN_cellj (HS.out.grow HB.out) (k := 1) rfl
      go_wp2_with (fail)
      go_ret
      exact ⟨rfl, below_then HW.out HB.out⟩
end Go.Proofs.Ytajddejeglhbhaa
