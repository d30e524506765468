/-
  The law of meaning.
-/
import Derived.Test.YtajddejeglhbhaaUC
import Derived.Test.YtajddejeglhbhaaUB
import Derived.Test.YtajddejeglhbhaaTko
import Derived.Test.YtajddejeglhbhaaR2
import Derived.Test.YtajddejeglhbhaaR1
import Derived.Test.YtajddejeglhbhaaOj
import Derived.Test.YtajddejeglhbhaaTah
namespace Go.Proofs.Ytajddejeglhbhaa
open Go.ChangeShapes Go.WideShapes Go.ChangeAt Go.RowKit Go.Maps
set_option linter.unusedVariables false
set_option linter.unusedSimpArgs false
set_option maxRecDepth 100000
attribute [local irreducible] Calls
section
variable {P : Program}
theorem gT {ops : Array Oper} {ds : List Tmp} {a0 : Act} {w0 : World} {Φ : Tmp → Value → World → Prop} {o : Oper} {j : Nat} (ts : List Tmp) (want : Bool) (u : Tmp) (hg : o.guard = some (j, want)) (hj : ((ops[j]?).bind (·.dst)) = some u) (ht : o.looksAt #[] = ts)
    (h : ∀ (a : Act) (g : Grown w0), seenAll Φ ds a0 a g.w ts → uponP P g.w (meets Φ o.dst) ((execOp a.eval o).run P g.w)) (hin : inL u ds = true := by rfl) (hu : ∀ v w, Φ u v w → v = .bool want := by exact fun v w h => h) : Obl P ops ds a0 w0 Φ o := ob_gtrue ts j want u hg hj ht hin hu h
theorem tv1 {w : World} {K : Value → World → Prop} {r : Result Next} {v : Value} (hr : r = .ok (.value v) w) (h : K v w) : uponP P w K r := tupon_value hr (Below.refl _ _) h
end
theorem boxI_bd (l : List (Int × Int)) (n : Nat) {d : Int} (hd : 1 ≤ d) : ∀ p ∈ boxI l n d, -1048576 < p.1 ∧ p.1 < 1048576 ∧ p.1 ≤ p.2 ∧ p.2 < p.1 + d := by
  intro p hp
  unfold boxI at hp
  rw [List.mem_map] at hp
  obtain ⟨i, _, rfl⟩ := hp
  exact near_bd _ hd
theorem cut_tape {P : Program} {f : FuncId} {args : Array Value} {w : World} {n : Value} {C : List Is} {oc : List Int} (h : Calls P f args w fun e w' => ∃ u r, e = .returned (.agg #[n, u, r]) ∧ Ix w' u C ∧ Px w' r oc ∧ Below w.heap.size w w') :
    Calls P f args w fun e w' => ∃ p q c d, e = .returned (.agg #[n, .slice p C.length c, .slice q oc.length d]) ∧ Ix w' (.slice p C.length c) C ∧ Px w' (.slice q oc.length d) oc ∧ Below w.heap.size w w' := by
  refine h.mono ?_
  rintro e w' ⟨u, r, rfl, h1, h2, h3⟩
  obtain ⟨p, c, rfl⟩ := h1.cut
  obtain ⟨q, d, rfl⟩ := h2.cut
  exact ⟨p, q, c, d, rfl, h1, h2, h3⟩
set_option maxHeartbeats 64000000 in
theorem tsem (w : World) (vL vO vX : Value) (n0 lo hi : Int) (Lr : List Is) (outr : List Int) (Xr : List (Int × Int)) (hL : Ix w vL Lr ∧ ∀ x ∈ Lr, IW x) (hO : Px w vO outr ∧ ∀ x ∈ outr, W64 x) (hX : Vx w vX Xr ∧ ∀ q ∈ Xr, W64 q.1 ∧ W64 q.2) (hn : W64 n0) (hlo : W64 lo) (hhi : W64 hi) :
    Calls Try.prog 3 #[.agg #[.int .i64 n0, vL, vO, vX, .int .i64 lo, .int .i64 hi]] w fun e w' => e = .returned (.bool true) ∧ Below w.heap.size w w' := by
  obtain ⟨pl, cl, rfl⟩ := hL.1.cut
  obtain ⟨po, co, rfl⟩ := hO.1.cut
  obtain ⟨px, cx, rfl⟩ := hX.1.cut
  obtain ⟨s1, s2, hvs, hks⟩ := r2made lo hi hlo.1 hlo.2 hhi.1 hhi.2
  have HVS := Lib.hid hvs
  have KS := Lib.hid hks
  have hE : Below w.heap.size w (w.alloc (.cells #[.int .i64 n0, .slice pl Lr.length cl, .slice po outr.length co, .slice px Xr.length cx, .int .i64 lo, .int .i64 hi] 30)) := (Below.refl _ _).alloc (Nat.le_refl _) _
  have HQ := Lib.hid (show Blk (w.alloc (.cells #[.int .i64 n0, .slice pl Lr.length cl, .slice po outr.length co, .slice px Xr.length cx, .int .i64 lo, .int .i64 hi] 30)) w.heap.size (.cells #[.int .i64 n0, .slice pl Lr.length cl, .slice po outr.length co, .slice px Xr.length cx, .int .i64 lo, .int .i64 hi] 30) from World.alloc_heap_new w _)
  have HL := Lib.hid (hL.1.grow hE)
  have HO := Lib.hid (hO.1.grow hE)
  have HXV := Lib.hid (hX.1.grow hE)
  have HW := Lib.hid hE
  clear hE hL hO hX hn hlo hhi hvs hks
  go_enter Try.func3, Try.ntmps3
  go_wp2_with (fail)
  refine (sanity8 _).mono ?_
  rintro e w1 ⟨rfl, hB⟩
  have HQ := Lib.hid (HQ.out.grow hB)
  have HL := Lib.hid (HL.out.grow hB)
  have HO := Lib.hid (HO.out.grow hB)
  have HXV := Lib.hid (HXV.out.grow hB)
  have HW := Lib.hid (below_then HW.out hB)
  clear hB
  have q0 := heapN_cellj HQ.out (k := 0) rfl
  have q1 := heapN_cellj HQ.out (k := 1) rfl
  have q2 := heapN_cellj HQ.out (k := 2) rfl
  go_wp2_with (fail)
  refine (made8_ok n0 _ _ Lr outr 25 _ HL.out HO.out (by decide) (by decide)).mono ?_
  rintro e w2 ⟨N, T, O, u, r, rfl, hu, hr, htv, hN3, hT1, hT25, hB⟩
  have HTV := Lib.hid htv
  obtain ⟨hn1, hn6, h400, hon, hvl, hout⟩ := tv_cases htv
  obtain ⟨m, hm⟩ : ∃ m, O.length = m := ⟨_, rfl⟩
  have hNm : N = m := by omega
  subst hNm
  have HM := Lib.hid hm
  have HV := Lib.hid (show VL N T from hvl)
  have HOUT := Lib.hid hout
  have hut := Rx.own encI_len hu (by unfold maxLen; omega)
  have hro := Rx.own (enc := enc1) (fun _ => rfl) hr (by unfold maxLen; omega)
  obtain ⟨pu, cu, rfl⟩ := hut.cut
  obtain ⟨pr, cr', hrr⟩ := hro.cut
  rw [hm] at hrr
  subst hrr
  have hS : Below w2.heap.size w2 (w2.alloc (.cells #[.int .i64 N, .slice pu T.length cu, .slice pr N cr'] 25)) := (Below.refl _ _).alloc (Nat.le_refl _) _
  have HC := Lib.hid (show Blk (w2.alloc (.cells #[.int .i64 N, .slice pu T.length cu, .slice pr N cr'] 25)) w2.heap.size (.cells #[.int .i64 N, .slice pu T.length cu, .slice pr N cr'] 25) from World.alloc_heap_new w2 _)
  have HUT := Lib.hid (hut.grow hS)
  have HRO := Lib.hid (hro.grow hS)
  have HQ := Lib.hid ((HQ.out.grow hB).grow hS)
  have HXV := Lib.hid ((HXV.out.grow hB).grow hS)
  have HW := Lib.hid (below_then (below_then HW.out hB) hS)
  have KY := Lib.hid (fun w a b => system_ok N (.slice pu T.length cu) (.slice pr N cr') T O w a b HTV.out (by omega))
  rw [HM.out] at KY
  clear hB hu hr htv q0 q1 q2 HL HO hon hm hn6 h400 hvl hout hut hro hS
  go_wp2_with (fail)
  generalize hWc : World.alloc w2 _ = W5 at *
  clear hWc
  have q3 := fun g : Grown W5 => heapN_cellj (HQ.out.grow g.h) (k := 3) rfl
  have q4 := fun g : Grown W5 => heapN_cellj (HQ.out.grow g.h) (k := 4) rfl
  have q5 := fun g : Grown W5 => heapN_cellj (HQ.out.grow g.h) (k := 5) rfl
  have k0 := fun g : Grown W5 => heapN_cellj (HC.out.grow g.h) (k := 0) rfl
  have k1 := fun g : Grown W5 => heapN_cellj (HC.out.grow g.h) (k := 1) rfl
  have k2 := fun g : Grown W5 => heapN_cellj (HC.out.grow g.h) (k := 2) rfl
  refine region_pred_h (fun σ_ => lk [(12, fun z_ _ => z_ = .pointer (some ⟨w.heap.size, 3, none⟩)), (13, fun z_ _ => z_ = .slice px Xr.length cx), (14, fun z_ _ => z_ = .pointer (some ⟨w2.heap.size, 0, none⟩)), (15, fun z_ _ => z_ = .int .i64 N), (16, fun z_ w' => ∃ p_ c_ B_, z_ = .slice p_ N c_ ∧ W5.heap.size ≤ B_ ∧ w'.ownsRow B_ 28 2 (.slice p_ N c_) N (cr encB (boxI Xr N 200000))), (17, fun z_ _ => z_ = .pointer (some ⟨w.heap.size, 4, none⟩)), (18, fun z_ _ => z_ = .agg #[.int .i64 lo, .int .i64 hi]), (19, fun z_ _ => z_ = .agg #[.int .i64 s1, .int .i64 s2]), (20, fun z_ _ => z_ = .agg #[.int .i64 N, .slice pu T.length cu, .slice pr N cr']), (21, fun z_ w' => ∃ p_ c_ q_ d_ us_, z_ = .agg #[.slice p_ N c_, .slice q_ N d_] ∧ w'.ownsRow W5.heap.size 9 1 (.slice p_ N c_) N (cr encS (nms.take N)) ∧ OwnL W5.heap.size w' (.slice q_ N d_) (O.map (rowS T)) us_), (6, fun z_ w' => ∃ X_, z_ = .pointer (some ⟨X_, 0, none⟩) ∧ W5.heap.size ≤ X_ ∧ w'.heap[X_]? = some (.cells (if σ_ 13 = true then #[(.int .i64 s1), (.int .i64 s2)] else #[(.int .i64 0), (.int .i64 0)]) 28 (0, 0))), (7, fun z_ w' => ∃ X_, z_ = .pointer (some ⟨X_, 0, none⟩) ∧ W5.heap.size ≤ X_ ∧ (if σ_ 14 = true then (∃ p_ c_ q_ d_ us_, w'.heap[X_]? = some (.cells #[.slice p_ N c_, .slice q_ N d_] 38 (0, 0)) ∧ w'.ownsRow W5.heap.size 9 1 (.slice p_ N c_) N (cr encS (nms.take N)) ∧ OwnL W5.heap.size w' (.slice q_ N d_) (O.map (rowS T)) us_) else w'.heap[X_]? = some (.cells #[(.slice none 0 0), (.slice none 0 0)] 38 (0, 0)))), (5, fun _ _ => True)]) (kk [(16, Value.ownBlock), (6, ptrK), (7, ptrK)]) [(13, 6), (14, 7)] [] 100 [(5, 16)] (by kernel_rfl) (by kernel_rfl) ?_ (fun σ_ => lk_steady _ ⟨steady_eq _, steady_eq _, steady_eq _, steady_eq _, fun u w1 w2 hb ⟨p, c, B, e, h1, h2⟩ => ⟨p, c, B, e, h1, own_keptN h2 hb⟩, steady_eq _, steady_eq _, steady_eq _, steady_eq _, fun u w1 w2 hb ⟨p, c, q, d, us, e, h1, h2⟩ => ⟨p, c, q, d, us, e, own_keptN h1 hb, h2.kept hb⟩, fun u w1 w2 hb ⟨X, e, h1, h2⟩ => ⟨X, e, h1, (hb.block X (Array.getElem?_eq_some_iff.1 h2).1).trans h2⟩, fun u w1 w2 hb ⟨X, e, h1, h2⟩ => ⟨X, e, h1, iteD h2 (fun ⟨p, c, q, d, us, h3, h4, h5⟩ => ⟨p, c, q, d, us, (hb.block X (Array.getElem?_eq_some_iff.1 h3).1).trans h3, own_keptN h4 hb, h5.kept hb⟩) (fun h => (hb.block X (Array.getElem?_eq_some_iff.1 h).1).trans h)⟩, fun _ _ _ _ _ => trivial, trivial⟩) ?_ ?_ ?_ (by intro i p os hm; cases hm) ?_
  · intro x hx
    simp only [List.mem_cons, List.not_mem_nil, or_false] at hx
    subst hx
    exact ⟨12, _, 4, _, rfl, rfl, rfl, rfl, rfl, by first | decide | decide +kernel, fun a w => by first | rfl | simp [go_sem]⟩
  · intro σ_ t v w b h hb
    refine kk_lt (fun x hx e hl hb => ?_) h (kA_le hb)
    simp only [List.mem_cons, List.not_mem_nil, or_false] at hx
    rcases hx with rfl | rfl | rfl
    · subst e; obtain ⟨p, c, B, rfl, hB, ho⟩ := hl; exact (ho.lt b hb).2
    · subst e; obtain ⟨X, rfl, hX, hI⟩ := hl; obtain rfl : X = b := Option.some.inj hb; exact (Array.getElem?_eq_some_iff.1 hI).1
    · subst e; obtain ⟨X, rfl, hX, hI⟩ := hl; obtain rfl : X = b := Option.some.inj hb; exact iteE hI (fun ⟨p, c, q, d, us, h3, _⟩ => (Array.getElem?_eq_some_iff.1 h3).1) (fun h => (Array.getElem?_eq_some_iff.1 h).1)
  · refine ⟨?_, ?_, ?_, ?_, ?_, ?_, ?_, ?_, ?_, ?_, ?_, ?_, ?_, ?_, ?_, trivial⟩
    · exact fun _ _ _ σ_ hσ => oblg_of (ob_plain [1] rfl rfl fun _ g h => by have y0 := seen_out rfl rfl h.1; exact tv1 (by simp [go_sem, y0]) rfl) fun d v hd => by cases hd; rfl
    · exact fun _ _ _ σ_ hσ => oblg_of (ob_plain [12] rfl rfl fun _ g h => by obtain ⟨_, y0, rfl⟩ := seen_in rfl h.1; exact tv1 (by simp [go_sem, y0, q3 g]) rfl) fun d v hd => by cases hd; rfl
    · exact fun _ _ _ σ_ hσ => oblg_of (ob_plain [4] rfl rfl fun _ g h => by have y0 := seen_out rfl rfl h.1; exact tv1 (by simp [go_sem, y0]) rfl) fun d v hd => by cases hd; rfl
    · exact fun _ _ _ σ_ hσ => oblg_of (ob_plain [14] rfl rfl fun _ g h => by obtain ⟨_, y0, rfl⟩ := seen_in rfl h.1; exact tv1 (by simp [go_sem, y0, k0 g]) rfl) fun d v hd => by cases hd; rfl
    · exact fun _ _ _ σ_ hσ => oblg_plain [13, 15] rfl rfl fun aa g h => by obtain ⟨_, y0, rfl⟩ := seen_in rfl h.1; obtain ⟨_, y1, rfl⟩ := seen_in rfl h.2.1; exact tupon_enter (f := 12) (args := #[.slice px Xr.length cx, .int .i64 N, .int .i64 200000]) (by simp [go_sem, y0, y1]) rfl ((boxes_ok _ Xr N 200000 g.w (HXV.out.grow g.h) (by omega) (by decide) (by decide)).mono fun e w' ⟨p, c, he, hown, hB⟩ => ⟨_, he, hB, ⟨p, c, _, rfl, g.h.size, hown⟩, fun d b hd hb => by cases hd; exact (hown.lt b hb).1⟩)
    · exact fun _ _ _ σ_ hσ => oblg_of (ob_plain [1] rfl rfl fun _ g h => by have y0 := seen_out rfl rfl h.1; exact tv1 (by simp [go_sem, y0]) rfl) fun d v hd => by cases hd; rfl
    · exact fun _ _ _ σ_ hσ => oblg_of (ob_plain [17] rfl rfl fun _ g h => by obtain ⟨_, y0, rfl⟩ := seen_in rfl h.1; exact tv1 (by simp [go_sem, y0, q4 g, q5 g]) rfl) fun d v hd => by cases hd; rfl
    · exact fun _ _ _ σ_ hσ => oblg_of (ob_plain [18] rfl rfl fun _ g h => by obtain ⟨_, y0, rfl⟩ := seen_in rfl h.1; exact tupon_enter (f := 13) (args := #[.agg #[.int .i64 lo, .int .i64 hi]]) (by simp [go_sem, y0]) rfl ((KS.out g.w).mono fun e w' ⟨he, hB⟩ => ⟨_, he, hB, rfl⟩)) fun d v hd => by cases hd; rfl
    · exact fun _ _ _ σ_ hσ => oblg_of (ob_plain [4] rfl rfl fun _ g h => by have y0 := seen_out rfl rfl h.1; exact tv1 (by simp [go_sem, y0, k0 g, k1 g, k2 g]) rfl) fun d v hd => by cases hd; rfl
    · exact fun _ _ _ σ_ hσ => oblg_of (ob_plain [20] rfl rfl fun _ g h => by obtain ⟨_, y0, rfl⟩ := seen_in rfl h.1; exact tupon_enter (f := 14) (args := #[.agg #[.int .i64 N, .slice pu T.length cu, .slice pr N cr']]) (by simp [go_sem, y0]) rfl ((KY.out g.w (HUT.out.grow g.h) (HRO.out.grow g.h)).mono fun e w' ⟨p, c, q, d, he, h1, ⟨us, h2⟩, hB⟩ => ⟨_, he, hB, ⟨p, c, q, d, us, rfl, own_base h1 g.h.size, ⟨own_base h2.row g.h.size, h2.el⟩⟩⟩)) fun d v hd => by cases hd; rfl
    · intro _ _ _ σ_ hσ
      have hsx : σ_ 13 = false := by
        cases e : σ_ 13 with
        | false => rfl
        | true => exact absurd (hσ 13 _ e rfl) (by first | decide | decide +kernel)
      refine oblg_plain [] rfl rfl fun aa g h => ?_
      exact tupon_value (v := .pointer (some ⟨g.w.heap.size, 0, none⟩)) (w1 := g.w.alloc (.cells #[(.int .i64 0), (.int .i64 0)] 28)) (by simp [go_sem]) ((Below.refl _ _).alloc (Nat.le_refl _) _) ⟨⟨_, rfl, g.h.size, by rw [if_neg (by rw [hsx]; exact Bool.false_ne_true)]; exact World.alloc_heap_new _ _⟩, fun d b hd hb => by cases hd; obtain rfl := Option.some.inj hb; exact Nat.le_refl _⟩
    · intro _ _ _ σ_ hσ
      have hsx : σ_ 14 = false := by
        cases e : σ_ 14 with
        | false => rfl
        | true => exact absurd (hσ 14 _ e rfl) (by first | decide | decide +kernel)
      refine oblg_plain [] rfl rfl fun aa g h => ?_
      exact tupon_value (v := .pointer (some ⟨g.w.heap.size, 0, none⟩)) (w1 := g.w.alloc (.cells #[(.slice none 0 0), (.slice none 0 0)] 38)) (by simp [go_sem]) ((Below.refl _ _).alloc (Nat.le_refl _) _) ⟨⟨_, rfl, g.h.size, by rw [if_neg (by rw [hsx]; exact Bool.false_ne_true)]; exact World.alloc_heap_new _ _⟩, fun d b hd hb => by cases hd; obtain rfl := Option.some.inj hb; exact Nat.le_refl _⟩
    · exact fun _ _ _ σ_ hσ => oblg_of (ob_plain [16] rfl rfl fun _ g h => by obtain ⟨v0, y0, _⟩ := seen_in rfl h.1; exact tv1 (v := v0) (by simp [go_sem, y0]) trivial) fun d v hd => by cases hd; rfl
    · exact fun h => absurd h (by decide)
    · exact fun h => absurd h (by decide)
  · intro i p os hm hos
    simp only [List.mem_cons, List.not_mem_nil, or_false, Prod.mk.injEq] at hm
    rcases hm with ⟨rfl, rfl⟩ | ⟨rfl, rfl⟩
    · obtain rfl := Option.some.inj hos
      intro σ_ aa gg hσ h
      obtain ⟨_, r0, X, rfl, hX, hI⟩ := seen_in rfl h.1
      obtain ⟨_, r1, rfl⟩ := seen_in rfl h.2.1
      rw [if_neg (by rw [hσ]; exact Bool.false_ne_true)] at hI
      have q0 := heapN_cellj hI (k := 0) rfl
      have z0 : gg.w.frozen? ⟨X, 0, none⟩ = false := by simp [World.frozen?, hI]
      have q1 := heapN_cellj hI (k := 1) rfl
      have z1 : gg.w.frozen? ⟨X, 1, none⟩ = false := by simp [World.frozen?, hI]
      have cc1 := cellsT_setN (o := 0) (u := .int .i64 s1) hI
      refine ⟨((gg.w.setCell ⟨X, 0, none⟩ (.int .i64 s1)).setCell ⟨X, 1, none⟩ (.int .i64 s2)), by simp [go_sem, r0, r1, q0, z0, q1, z1], (gg.h.setCell (p := ⟨X, 0, none⟩) hX _).setCell (p := ⟨X, 1, none⟩) hX _, fun t v hv hne hΦ => lk_pair ?_ hΦ⟩
      refine ⟨rfl, fun _ h => h, rfl, fun _ h => h, rfl, fun _ h => h, rfl, fun _ h => h, rfl, ?_, rfl, fun _ h => h, rfl, fun _ h => h, rfl, fun _ h => h, rfl, fun _ h => h, rfl, ?_, rfl, ?_, rfl, ?_, rfl, fun _ h => h, trivial⟩
      · intro e hx
        subst e
        obtain ⟨p, c, B, rfl, hB, ho⟩ := hx
        have hn : (Value.slice p N c).ownBlock ≠ some X := fun e2 => hne (by decide) _ X r0 ((kA_of (cons_no (by decide))).trans rfl) ((kA_of (cons_no (by decide))).trans e2)
        exact ⟨p, c, B, rfl, hB, (ho.kept (grownBy_setN _ ⟨X, 0, none⟩ _) (.inr hn)).kept (grownBy_setN _ ⟨X, 1, none⟩ _) (.inr hn)⟩
      · exact fun _ ⟨p, c, q, d, us, e, h1, h2⟩ => ⟨p, c, q, d, us, e, own_setT (own_setT h1 hI (by decide) 0 (.int .i64 s1)) cc1 (by decide) 1 (.int .i64 s2), ⟨own_setT (own_setT h2.row hI (by decide) 0 (.int .i64 s1)) cc1 (by decide) 1 (.int .i64 s2), fun k u x i1 i2 => nxo_setT (nxo_setT (h2.el k u x i1 i2) hI (by decide) 0 (.int .i64 s1)) cc1 (by decide) 1 (.int .i64 s2)⟩⟩
      · intro e hx
        subst e
        rw [r0] at hv
        have e := Option.some.inj hv
        subst e
        exact ⟨X, rfl, hX, by rw [if_pos (updS_self _ _)]; exact cellsT_setN (o := 1) (u := .int .i64 s2) cc1⟩
      · intro e hx
        subst e
        obtain ⟨X', rfl, hX', hI'⟩ := hx
        have hn2 : X' ≠ X := fun e => hne (by decide) _ X r0 ((kA_of (cons_no (by decide))).trans rfl) ((kA_of (cons_no (by decide))).trans (by rw [e]; rfl))
        refine ⟨X', rfl, hX', ?_⟩
        rw [updS_ne _ (by decide)]
        exact iteD hI' (fun ⟨p, c, q, d, us, h3, h1, h2⟩ => ⟨p, c, q, d, us, (heap_setN_ne _ hn2 1 _).trans ((heap_setN_ne _ hn2 0 _).trans h3), own_setT (own_setT h1 hI (by decide) 0 (.int .i64 s1)) cc1 (by decide) 1 (.int .i64 s2), ⟨own_setT (own_setT h2.row hI (by decide) 0 (.int .i64 s1)) cc1 (by decide) 1 (.int .i64 s2), fun k u x i1 i2 => nxo_setT (nxo_setT (h2.el k u x i1 i2) hI (by decide) 0 (.int .i64 s1)) cc1 (by decide) 1 (.int .i64 s2)⟩⟩) (fun h => (heap_setN_ne _ hn2 1 _).trans ((heap_setN_ne _ hn2 0 _).trans h))
    · obtain rfl := Option.some.inj hos
      intro σ_ aa gg hσ h
      obtain ⟨_, r0, X, rfl, hX, hI⟩ := seen_in rfl h.1
      obtain ⟨_, r1, p1, c1, q1, d1, us1, rfl, g1, g2⟩ := seen_in rfl h.2.1
      rw [if_neg (by rw [hσ]; exact Bool.false_ne_true)] at hI
      have q0 := heapN_cellj hI (k := 0) rfl
      have z0 : gg.w.frozen? ⟨X, 0, none⟩ = false := by simp [World.frozen?, hI]
      have q1' := heapN_cellj hI (k := 1) rfl
      have z1 : gg.w.frozen? ⟨X, 1, none⟩ = false := by simp [World.frozen?, hI]
      have cc1 := cellsT_setN (o := 0) (u := (.slice p1 N c1)) hI
      refine ⟨((gg.w.setCell ⟨X, 0, none⟩ (.slice p1 N c1)).setCell ⟨X, 1, none⟩ (.slice q1 N d1)), by simp [go_sem, r0, r1, q0, z0, q1', z1], (gg.h.setCell (p := ⟨X, 0, none⟩) hX _).setCell (p := ⟨X, 1, none⟩) hX _, fun t v hv hne hΦ => lk_pair ?_ hΦ⟩
      refine ⟨rfl, fun _ h => h, rfl, fun _ h => h, rfl, fun _ h => h, rfl, fun _ h => h, rfl, ?_, rfl, fun _ h => h, rfl, fun _ h => h, rfl, fun _ h => h, rfl, fun _ h => h, rfl, ?_, rfl, ?_, rfl, ?_, rfl, fun _ h => h, trivial⟩
      · exact fun _ ⟨p, c, B, e, hB, ho⟩ => ⟨p, c, B, e, hB, own_setT (own_setT ho hI (by decide) 0 (.slice p1 N c1)) cc1 (by decide) 1 (.slice q1 N d1)⟩
      · exact fun _ ⟨p, c, q, d, us, e, h1, h2⟩ => ⟨p, c, q, d, us, e, own_setT (own_setT h1 hI (by decide) 0 (.slice p1 N c1)) cc1 (by decide) 1 (.slice q1 N d1), ⟨own_setT (own_setT h2.row hI (by decide) 0 (.slice p1 N c1)) cc1 (by decide) 1 (.slice q1 N d1), fun k u x i1 i2 => nxo_setT (nxo_setT (h2.el k u x i1 i2) hI (by decide) 0 (.slice p1 N c1)) cc1 (by decide) 1 (.slice q1 N d1)⟩⟩
      · intro e hx
        subst e
        obtain ⟨X', rfl, hX', hI'⟩ := hx
        have hn2 : X' ≠ X := fun e => hne (by decide) _ X r0 ((kA_of (cons_no (by decide))).trans rfl) ((kA_of (cons_no (by decide))).trans (by rw [e]; rfl))
        exact ⟨X', rfl, hX', by rw [updS_ne _ (by decide)]; exact (heap_setN_ne _ hn2 1 _).trans ((heap_setN_ne _ hn2 0 _).trans hI')⟩
      · intro e hx
        subst e
        rw [r0] at hv
        have e := Option.some.inj hv
        subst e
        exact ⟨X, rfl, hX, by rw [if_pos (updS_self _ _)]; exact ⟨p1, c1, q1, d1, us1, cellsT_setN (o := 1) (u := (.slice q1 N d1)) cc1, own_setT (own_setT g1 hI (by decide) 0 (.slice p1 N c1)) cc1 (by decide) 1 (.slice q1 N d1), ⟨own_setT (own_setT g2.row hI (by decide) 0 (.slice p1 N c1)) cc1 (by decide) 1 (.slice q1 N d1), fun k u x i1 i2 => nxo_setT (nxo_setT (g2.el k u x i1 i2) hI (by decide) 0 (.slice p1 N c1)) cc1 (by decide) 1 (.slice q1 N d1)⟩⟩⟩
  rintro w6 hB6 _ rfl _ rfl _ rfl _ rfl _ ⟨p16, c16, B16, rfl, hB16, ho16⟩ _ rfl _ rfl _ rfl _ rfl _ - _ ⟨X6, rfl, hX6, hI6⟩ _ ⟨X7, rfl, hX7, hI7⟩ v5 -
  simp only [Act.put, List.setIfInBounds_toArray, List.set_cons_succ, List.set_cons_zero, List.filterMap_nil, finP]
  intro hdis hcp
  refine endQ_none rfl ?_
  have e5 : v5 = .slice p16 N c16 := Option.some.inj (hcp (5, 16) (by simp))
  subst e5
  obtain ⟨pn, cn, pf, cf, us, hI7, hnm, hfr⟩ := iteT hI7
  have hI6 : w6.heap[X6]? = some (.cells #[.int .i64 s1, .int .i64 s2] 28 (0, 0)) := hI6
  have hn1' : 1 ≤ N := by have := (tv_cases HTV.out).1; omega
  have HI := Lib.hid (show Blk w6 X6 (.cells #[.int .i64 s1, .int .i64 s2] 28) from hI6)
  have HS := Lib.hid (show Blk w6 X7 (.cells #[.slice pn N cn, .slice pf N cf] 38) from hI7)
  have hnl := nms_len hN3
  have hcap : N ≤ cn := by
    obtain ⟨_, _, e9, h⟩ := own_some hnm hn1'
    simp only [Value.slice.injEq] at e9
    omega
  have hsx : Sx w6 (.slice pn N cn) (nms.take N) := by
    have := Rx.own (enc := encS) (l := nms.take N) (v := .slice pn N cn) (fun _ => rfl) (by rw [hnl]; exact hnm) (by rw [hnl]; unfold maxLen; omega)
    exact this
  have hlx := hfr.lx (by rw [List.length_map, HM.out]; unfold maxLen; omega)
  obtain ⟨l, hl⟩ : ∃ l, boxI Xr N 200000 = l := ⟨_, rfl⟩
  have hlen := boxI_len Xr N 200000
  have hbd := boxI_bd Xr N (d := 200000) (by decide)
  rw [hl] at ho16 hlen hbd
  have hvx : Vx w6 (.slice p16 N c16) l := by
    have h := ho16
    rw [← hlen] at h
    have := Rx.own encB_len h (by unfold maxLen; omega)
    rw [hlen] at this
    exact this
  have HLEN := Lib.hid hlen
  have HVI := Lib.hid (show ∀ p ∈ l, VI p.1 p.2 from fun p hp => by
    have := hbd p hp
    unfold VI Num
    omega)
  have HC := Lib.hid (HC.out.grow hB6)
  have HUT := Lib.hid (HUT.out.grow hB6)
  have HRO := Lib.hid (HRO.out.grow hB6)
  have HW := Lib.hid (below_then HW.out hB6)
  have hev := sys_ev HV.out HOUT.out
  have h200 : ∀ t ∈ O.map (sysT T), (pre t).length ≤ 200 := fun t ht => by
    obtain ⟨y, _, rfl⟩ := List.mem_map.1 ht
    exact sys_200 y
  have hsv := sys_syv HV.out HOUT.out (by rw [HM.out]) (by rw [HM.out]; exact hn1') (by rw [HM.out]; exact hN3)
  have hcf := cmpF HTV.out (by omega)
  rw [sys_rows HV.out HOUT.out] at hlx
  rw [HM.out] at hsv hcf
  have htl : (O.map (sysT T)).length = N := by rw [List.length_map, HM.out]
  have hcv := comp_val (X := l) (t := (s1, s2)) hev
  obtain ⟨⟨C, oc⟩, hC⟩ : ∃ R, compT (O.map (sysT T)) [] = R := ⟨_, rfl⟩
  rw [hC] at hcf hcv
  dsimp only at hcf hcv
  obtain ⟨ts, hts⟩ : ∃ ts, O.map (sysT T) = ts := ⟨_, rfl⟩
  rw [hts] at hlx hev h200 hsv htl hC hcv
  obtain ⟨P, hP⟩ : ∃ P, ts.map (evT l (s1, s2)) = P := ⟨_, rfl⟩
  have hPl : P.length = N := by rw [← hP, List.length_map, htl]
  rw [hP] at hcv
  have hCl : C.length ≤ 400 := by have := hcf.len; omega
  have KC := Lib.hid (fun (w : World) (a : Sx w (.slice pn N cn) (nms.take N)) (b : Lx NxO w (.slice pf N cf) (ts.map pre)) => (by
    have h := comp_at pn cn (.slice pf N cf) (nms.take N) ts C oc N w (by rw [hnl]; exact a) (by rw [hnl]; exact hcap) b hsv (fun t ht => (hev t ht).ar) (fun t ht y hy => nw_of (ev_nodes (hev t ht) y hy) (by omega)) (by rw [hC]; exact hCl) hC (by rw [htl])
    rw [hnl] at h
    exact cut_tape h : Calls Try.prog 17 #[.agg #[.slice pn N cn, .slice pf N cf]] w fun e w' => ∃ p q c d, e = .returned (.agg #[.int .i64 N, .slice p C.length c, .slice q oc.length d]) ∧ Ix w' (.slice p C.length c) C ∧ Px w' (.slice q oc.length d) oc ∧ Below w.heap.size w w'))
  have KE1 := Lib.hid (fun w vl vo vx a b c => eval_at N vl vo vx s1 s2 C oc l P w a b c (by rw [HLEN.out]) hcf.val HVI.out HVS.out hcv)
  have KD := Lib.hid (fun w vx a b => deriv_ok pn N cn (.slice pf N cf) vx s1 s2 l N ts w a b (by rw [HLEN.out]) HVI.out HVS.out hev h200 (by omega) P hP)
  have hvl := HV.out
  have hout := HOUT.out
  obtain ⟨hn1, hn6, h400, hon, _, _⟩ := tv_cases HTV.out
  have hov := opt_val (X := l) (t := (s1, s2)) hvl hout
  have hopt : tvB N (optL T O).1 (optL T O).2 = true := by
    have hle := opt_le hvl hout
    have hol : (optL T O).2.length = O.length := by unfold optL; rw [comp_len, List.length_map]
    have hv2 : VL N (optL T O).1 := compT_vl (opt_ev hvl hout) (fun k x hx => by simp at hx)
    refine tv_of hn1 hn6 (by omega) (m := O.length) hon hol hv2 (fun y hy => ?_)
    have := comp_out y hy
    unfold ixB
    rw [decide_eq_true this.1, show decide (y < ((optL T O).1.length : Int)) = true from decide_eq_true this.2]
    rfl
  obtain ⟨⟨D, od⟩, hD⟩ : ∃ R, optL T O = R := ⟨_, rfl⟩
  rw [hD] at hov hopt
  dsimp only at hov hopt
  obtain ⟨P2, hP2⟩ : ∃ P, outV (evL l (s1, s2) T) O = P := ⟨_, rfl⟩
  have hP2l : P2.length = N := by rw [← hP2]; unfold outV; rw [List.length_map, HM.out]
  rw [hP2] at hov
  have KO := Lib.hid (fun w vl vo a b => cut_tape (opt_at N vl vo T D O od w a b HTV.out hD))
  have KE2 := Lib.hid (fun w vl vo vx a b c => eval_at N vl vo vx s1 s2 D od l P2 w a b c (by rw [HLEN.out]) hopt HVI.out HVS.out hov)
  have KE3 := Lib.hid (fun w vl vo vx a b c => eval_at N vl vo vx s1 s2 T O l P2 w a b c (by rw [HLEN.out]) HTV.out HVI.out HVS.out hP2)
  have HPL := Lib.hid hPl
  have HP2L := Lib.hid hP2l
  have HSX := Lib.hid hsx
  have HLX := Lib.hid hlx
  have HVX := Lib.hid hvx
  clear hdis hcp hI6 hI7 hnm hfr hnl hcap hsx hlx hl hlen hbd ho16 hvx hev h200 hsv hcf htl hcv hC hts hP hPl hCl hvl hout hn1 hn6 h400 hon hov hopt hD hP2 hP2l q3 q4 q5 k0 k1 k2 hB6 hB16 hX6 hX7 KS KY HQ HXV
  go_wp2_with (fail)
  have k0 := fun g : Grown w6 => heapN_cellj (HC.out.grow g.h) (k := 0) rfl
  have k1 := fun g : Grown w6 => heapN_cellj (HC.out.grow g.h) (k := 1) rfl
  have k2 := fun g : Grown w6 => heapN_cellj (HC.out.grow g.h) (k := 2) rfl
  have x0 := fun g : Grown w6 => heapN_cellj (HI.out.grow g.h) (k := 0) rfl
  have x1 := fun g : Grown w6 => heapN_cellj (HI.out.grow g.h) (k := 1) rfl
  have y0' := fun g : Grown w6 => heapN_cellj (HS.out.grow g.h) (k := 0) rfl
  have y1' := fun g : Grown w6 => heapN_cellj (HS.out.grow g.h) (k := 1) rfl
  refine region_pred (lk [(22, fun z_ _ => z_ = .agg #[.slice pn N cn, .slice pf N cf]), (23, fun z_ w' => ∃ p_ q_ c_ d_, z_ = .agg #[.int .i64 N, .slice p_ C.length c_, .slice q_ oc.length d_] ∧ Ix w' (.slice p_ C.length c_) C ∧ Px w' (.slice q_ oc.length d_) oc), (24, fun z_ _ => z_ = .slice p16 N c16), (25, fun z_ _ => z_ = .agg #[.int .i64 s1, .int .i64 s2]), (26, fun z_ w' => Vx w' z_ P), (27, fun z_ _ => z_ = .agg #[.slice pn N cn, .slice pf N cf]), (28, fun z_ _ => z_ = .slice p16 N c16), (29, fun z_ _ => z_ = .agg #[.int .i64 s1, .int .i64 s2]), (30, fun z_ w' => Vx w' z_ P), (31, fun z_ _ => z_ = .bool true), (32, fun z_ _ => z_ = .bool true), (33, fun z_ _ => z_ = .agg #[.int .i64 N, .slice pu T.length cu, .slice pr N cr']), (34, fun z_ w' => ∃ p_ q_ c_ d_, z_ = .agg #[.int .i64 N, .slice p_ D.length c_, .slice q_ od.length d_] ∧ Ix w' (.slice p_ D.length c_) D ∧ Px w' (.slice q_ od.length d_) od), (35, fun z_ _ => z_ = .slice p16 N c16), (36, fun z_ _ => z_ = .agg #[.int .i64 s1, .int .i64 s2]), (37, fun z_ w' => Vx w' z_ P2), (38, fun z_ _ => z_ = .agg #[.int .i64 N, .slice pu T.length cu, .slice pr N cr']), (39, fun z_ _ => z_ = .slice p16 N c16), (40, fun z_ _ => z_ = .agg #[.int .i64 s1, .int .i64 s2]), (41, fun z_ w' => Vx w' z_ P2), (42, fun z_ _ => z_ = .bool true), (43, fun z_ _ => z_ = .bool true), (44, fun z_ _ => z_ = .bool true), (45, fun z_ _ => z_ = .bool true), (46, fun z_ _ => z_ = .bool true), (2, fun z_ _ => z_ = .bool true)]) (by kernel_rfl) (by kernel_rfl) (lk_steady _ ⟨steady_eq _, fun u w1 w2 hb ⟨p, q, c, d, e, h1, h2⟩ => ⟨p, q, c, d, e, h1.grow hb, h2.grow hb⟩, steady_eq _, steady_eq _, fun u w1 w2 hb h => h.grow hb, steady_eq _, steady_eq _, steady_eq _, fun u w1 w2 hb h => h.grow hb, steady_eq _, steady_eq _, steady_eq _, fun u w1 w2 hb ⟨p, q, c, d, e, h1, h2⟩ => ⟨p, q, c, d, e, h1.grow hb, h2.grow hb⟩, steady_eq _, steady_eq _, fun u w1 w2 hb h => h.grow hb, steady_eq _, steady_eq _, steady_eq _, fun u w1 w2 hb h => h.grow hb, steady_eq _, steady_eq _, steady_eq _, steady_eq _, steady_eq _, steady_eq _, trivial⟩) ?_ ?_
  · refine ⟨?_, ?_, ?_, ?_, ?_, ?_, ?_, ?_, ?_, ?_, ?_, ?_, ?_, ?_, ?_, ?_, ?_, ?_, ?_, ?_, ?_, ?_, ?_, ?_, ?_, ?_, trivial⟩
    · exact ob_plain [7] rfl rfl fun _ g h => by have y0 := seen_out rfl rfl h.1; exact tv1 (by simp [go_sem, y0, y0' g, y1' g]) rfl
    · exact ob_plain [22] rfl rfl fun _ g h => by obtain ⟨_, y0, rfl⟩ := seen_in rfl h.1; exact tupon_enter (f := 17) (args := #[.agg #[.slice pn N cn, .slice pf N cf]]) (by simp [go_sem, y0]) rfl ((KC.out g.w (HSX.out.grow g.h) (HLX.out.grow grows_nxo g.h)).mono fun e w' ⟨p, q, c, d, he, hi, hp, hB⟩ => ⟨_, he, hB, ⟨p, q, c, d, rfl, hi, hp⟩⟩)
    · exact ob_plain [5] rfl rfl fun _ g h => by have y0 := seen_out rfl rfl h.1; exact tv1 (by simp [go_sem, y0]) rfl
    · exact ob_plain [6] rfl rfl fun _ g h => by have y0 := seen_out rfl rfl h.1; exact tv1 (by simp [go_sem, y0, x0 g, x1 g]) rfl
    · exact ob_plain [23, 24, 25] rfl rfl fun _ g h => by obtain ⟨_, y0, ⟨p23, q23, c23, d23, rfl, hi23, hp23⟩⟩ := seen_in rfl h.1; obtain ⟨_, y1, rfl⟩ := seen_in rfl h.2.1; obtain ⟨_, y2, rfl⟩ := seen_in rfl h.2.2.1; exact tupon_enter (f := 16) (args := #[.agg #[.int .i64 N, .slice p23 C.length c23, .slice q23 oc.length d23], .slice p16 N c16, .agg #[.int .i64 s1, .int .i64 s2]]) (by simp [go_sem, y0, y1, y2]) rfl ((KE1.out g.w _ _ _ hi23 hp23 (HVX.out.grow g.h)).mono fun e w' ⟨u9, he, hv, hB⟩ => ⟨_, he, hB, hv⟩)
    · exact ob_plain [7] rfl rfl fun _ g h => by have y0 := seen_out rfl rfl h.1; exact tv1 (by simp [go_sem, y0, y0' g, y1' g]) rfl
    · exact ob_plain [5] rfl rfl fun _ g h => by have y0 := seen_out rfl rfl h.1; exact tv1 (by simp [go_sem, y0]) rfl
    · exact ob_plain [6] rfl rfl fun _ g h => by have y0 := seen_out rfl rfl h.1; exact tv1 (by simp [go_sem, y0, x0 g, x1 g]) rfl
    · exact ob_plain [27, 28, 29] rfl rfl fun _ g h => by obtain ⟨_, y0, rfl⟩ := seen_in rfl h.1; obtain ⟨_, y1, rfl⟩ := seen_in rfl h.2.1; obtain ⟨_, y2, rfl⟩ := seen_in rfl h.2.2.1; exact tupon_enter (f := 18) (args := #[.agg #[.slice pn N cn, .slice pf N cf], .slice p16 N c16, .agg #[.int .i64 s1, .int .i64 s2]]) (by simp [go_sem, y0, y1, y2]) rfl ((KD.out g.w _ (HLX.out.grow grows_nxo g.h) (HVX.out.grow g.h)).mono fun e w' ⟨u9, he, hv, hB⟩ => ⟨_, he, hB, hv⟩)
    · exact ob_plain [26, 30] rfl rfl fun _ g h => by obtain ⟨z26, y0, hv26⟩ := seen_in rfl h.1; obtain ⟨z30, y1, hv30⟩ := seen_in rfl h.2.1; exact tupon_enter (f := 15) (args := #[z26, z30]) (by simp [go_sem, y0, y1]) rfl ((sbox_self _ _ P N g.w hv26 hv30 HPL.out).mono fun e w' ⟨he, hB⟩ => ⟨_, he, hB, rfl⟩)
    · exact ob_plain [31] rfl rfl fun _ g h => by obtain ⟨_, y0, rfl⟩ := seen_in rfl h.1; exact tv1 (by simp [go_sem, y0]) rfl
    · exact gT [4] true 32 rfl rfl rfl fun _ g h => by have y0 := seen_out rfl rfl h.1; exact tv1 (by simp [go_sem, y0, k0 g, k1 g, k2 g]) rfl
    · exact gT [33] true 32 rfl rfl rfl fun _ g h => by obtain ⟨_, y0, rfl⟩ := seen_in rfl h.1; exact tupon_enter (f := 19) (args := #[.agg #[.int .i64 N, .slice pu T.length cu, .slice pr N cr']]) (by simp [go_sem, y0]) rfl ((KO.out g.w _ _ (HUT.out.grow g.h) (HRO.out.grow g.h)).mono fun e w' ⟨p, q, c, d, he, hi, hp, hB⟩ => ⟨_, he, hB, ⟨p, q, c, d, rfl, hi, hp⟩⟩)
    · exact gT [5] true 32 rfl rfl rfl fun _ g h => by have y0 := seen_out rfl rfl h.1; exact tv1 (by simp [go_sem, y0]) rfl
    · exact gT [6] true 32 rfl rfl rfl fun _ g h => by have y0 := seen_out rfl rfl h.1; exact tv1 (by simp [go_sem, y0, x0 g, x1 g]) rfl
    · exact gT [34, 35, 36] true 32 rfl rfl rfl fun _ g h => by obtain ⟨_, y0, ⟨p34, q34, c34, d34, rfl, hi34, hp34⟩⟩ := seen_in rfl h.1; obtain ⟨_, y1, rfl⟩ := seen_in rfl h.2.1; obtain ⟨_, y2, rfl⟩ := seen_in rfl h.2.2.1; exact tupon_enter (f := 16) (args := #[.agg #[.int .i64 N, .slice p34 D.length c34, .slice q34 od.length d34], .slice p16 N c16, .agg #[.int .i64 s1, .int .i64 s2]]) (by simp [go_sem, y0, y1, y2]) rfl ((KE2.out g.w _ _ _ hi34 hp34 (HVX.out.grow g.h)).mono fun e w' ⟨u9, he, hv, hB⟩ => ⟨_, he, hB, hv⟩)
    · exact gT [4] true 32 rfl rfl rfl fun _ g h => by have y0 := seen_out rfl rfl h.1; exact tv1 (by simp [go_sem, y0, k0 g, k1 g, k2 g]) rfl
    · exact gT [5] true 32 rfl rfl rfl fun _ g h => by have y0 := seen_out rfl rfl h.1; exact tv1 (by simp [go_sem, y0]) rfl
    · exact gT [6] true 32 rfl rfl rfl fun _ g h => by have y0 := seen_out rfl rfl h.1; exact tv1 (by simp [go_sem, y0, x0 g, x1 g]) rfl
    · exact gT [38, 39, 40] true 32 rfl rfl rfl fun _ g h => by obtain ⟨_, y0, rfl⟩ := seen_in rfl h.1; obtain ⟨_, y1, rfl⟩ := seen_in rfl h.2.1; obtain ⟨_, y2, rfl⟩ := seen_in rfl h.2.2.1; exact tupon_enter (f := 16) (args := #[.agg #[.int .i64 N, .slice pu T.length cu, .slice pr N cr'], .slice p16 N c16, .agg #[.int .i64 s1, .int .i64 s2]]) (by simp [go_sem, y0, y1, y2]) rfl ((KE3.out g.w _ _ _ (HUT.out.grow g.h) (HRO.out.grow g.h) (HVX.out.grow g.h)).mono fun e w' ⟨u9, he, hv, hB⟩ => ⟨_, he, hB, hv⟩)
    · exact gT [37, 41] true 32 rfl rfl rfl fun _ g h => by obtain ⟨z37, y0, hv37⟩ := seen_in rfl h.1; obtain ⟨z41, y1, hv41⟩ := seen_in rfl h.2.1; exact tupon_enter (f := 15) (args := #[z37, z41]) (by simp [go_sem, y0, y1]) rfl ((sbox_self _ _ P2 N g.w hv37 hv41 HP2L.out).mono fun e w' ⟨he, hB⟩ => ⟨_, he, hB, rfl⟩)
    · exact ob_plain [32, 42] rfl rfl fun _ g h => by obtain ⟨_, y0, rfl⟩ := seen_in rfl h.1; obtain ⟨_, y1, rfl⟩ := seen_in rfl h.2.1; exact tv1 (by simp [go_sem, y0, y1]) rfl
    · exact ob_plain [43] rfl rfl fun _ g h => by obtain ⟨_, y0, rfl⟩ := seen_in rfl h.1; exact tv1 (by simp [go_sem, y0]) rfl
    · exact gT [3] true 44 rfl rfl rfl fun _ g h => by have y0 := seen_out rfl rfl h.1; exact tv1 (by simp [go_sem, y0]) rfl
    · exact ob_plain [44, 45] rfl rfl fun _ g h => by obtain ⟨_, y0, rfl⟩ := seen_in rfl h.1; obtain ⟨_, y1, rfl⟩ := seen_in rfl h.2.1; exact tv1 (by simp [go_sem, y0, y1]) rfl
    · exact ob_plain [46] rfl rfl fun _ g h => by obtain ⟨_, y0, rfl⟩ := seen_in rfl h.1; exact tv1 (by simp [go_sem, y0]) rfl
  rintro w9 hB9 _ rfl _ ⟨p23, q23, c23, d23, rfl, hi23, hp23⟩ _ rfl _ rfl z26 hv26 _ rfl _ rfl _ rfl z30 hv30 _ rfl _ rfl _ rfl _ ⟨p34, q34, c34, d34, rfl, hi34, hp34⟩ _ rfl _ rfl z37 hv37 _ rfl _ rfl _ rfl z41 hv41 _ rfl _ rfl _ rfl _ rfl _ rfl _ rfl
  simp only [Act.put, List.setIfInBounds_toArray, List.set_cons_succ, List.set_cons_zero, List.filterMap_nil, finP]
  have HW := Lib.hid (below_then HW.out hB9)
  clear hB9 k0 k1 k2 x0 x1 y0' y1' KE1 KE2 KE3 KD KO KC HUT HRO HVX HI HS HSX HLX
  go_wp2_with (fail)
  go_ret
  exact ⟨rfl, HW.out⟩
end Go.Proofs.Ytajddejeglhbhaa
