/-
  The law of dead code.
-/
import Derived.Test.YtajddejeglhbhaaUC
import Derived.Test.YtajddejeglhbhaaUB
import Derived.Test.YtajddejeglhbhaaQm
import Derived.Test.YtajddejeglhbhaaR2
import Derived.Test.YtajddejeglhbhaaPredG
import Derived.Test.YtajddejeglhbhaaAppH
import Derived.SizedLaws
namespace Go.Proofs.Ytajddejeglhbhaa
open Go.ChangeShapes Go.WideShapes Go.ChangeAt Go.RowKit Go.Maps
set_option linter.unusedVariables false
set_option linter.unusedSimpArgs false
set_option maxRecDepth 100000
attribute [local irreducible] Calls
theorem evL_app (X : List (Int × Int)) (t : Int × Int) (L S : List Is) : ∃ r, evL X t (L ++ S) = evL X t L ++ r := by
  have key : ∀ (S : List Is) (v : List (Int × Int)), ∃ r, S.foldl (fun vals x => vals ++ [evI X t vals x]) v = v ++ r := by
    intro S
    induction S with
    | nil => intro v; exact ⟨[], by simp⟩
    | cons x S ih =>
      intro v
      obtain ⟨r, hr⟩ := ih (v ++ [evI X t v x])
      exact ⟨evI X t v x :: r, by rw [List.foldl_cons, hr]; simp⟩
  unfold evL
  rw [List.foldl_append]
  exact key S _
theorem outV_dead {X : List (Int × Int)} {t : Int × Int} {L S : List Is} {out : List Int} (h : ∀ y ∈ out, 0 ≤ y ∧ y < L.length) : outV (evL X t (L ++ S)) out = outV (evL X t L) out := by
  obtain ⟨r, hr⟩ := evL_app X t L S
  unfold outV
  refine List.map_congr_left fun y hy => ?_
  have := h y hy
  rw [hr, List.getD_eq_getElem?_getD, List.getD_eq_getElem?_getD, List.getElem?_append_left (by rw [evL_len]; omega)]
theorem encI_one (l : List Is) : ∀ u ∈ cr encI l, u.oneCell' = true := by
  intro u hu
  unfold cr at hu
  obtain ⟨t, _, h⟩ := List.mem_flatMap.1 hu
  simp only [encI, List.mem_cons, List.not_mem_nil, or_false] at h
  rcases h with rfl | rfl | rfl | rfl | rfl <;> rfl
theorem wpList_append_is {w : World} {ops : Array Oper} {rest : List Oper} {o : Oper} {a : Act} {Q : Exit → Act → World → Prop} (hgd : o.guard = none) (s x : Operand)
    (ho : o.op = .call { callee := .builtin .append, args := #[s, x], argTypes := #[22, 22] })
    (base : Nat) (v : Value) (n : Nat) (xs : List Value) (hs : a.eval s = v) (hown : w.ownsRow base 59 5 v n xs)
    (p : Option Addr) (c : Nat) (l : List Is) (hx : a.eval x = .slice p l.length c) (htx : Ix w (.slice p l.length c) l) (hc : p = none → c = 0)
    (h63 : n + l.length ≤ maxLen) (hbytes : (n + l.length) * 40 ≤ 140737488355328) (hbase : base ≤ w.heap.size)
    (h : ∀ v' w', w'.ownsRow base 59 5 v' (n + l.length) (xs ++ cr encI l) → w.grownBy w' v.ownBlock → wpList Try.prog ops Q rest (a.put o.dst v') w') : wpList Try.prog ops Q (o :: rest) a w := by
  obtain ⟨i0, hi, hz0, hz1, hz2⟩ := info_parts info_is
  cases p with
  | none =>
    have hl : l = [] := by
      cases l with
      | nil => rfl
      | cons y l =>
        obtain ⟨b, o', hp, _⟩ := htx.rd (i := 0) rfl
        cases hp
    subst hl
    obtain rfl := hc rfl
    refine wpList_append_own_none hgd s x _ ho base 59 i0 5 Try.underlying22 hi v n xs hs hown hx ?_
    refine h v w (by simpa [cr] using hown) ⟨rfl, rfl, rfl, Nat.le_refl _, fun _ _ _ => rfl⟩
  | some ad =>
    refine wpList_append_own _ hgd s x _ ho base 59 i0 _ 5 40 Try.underlying22 hi hz0 hz1 hz2 rfl (by decide) v n xs hs hown ad l.length c (cr encI l) hx (cr_len encI_len l) ?_ (encI_one l) h63 hbytes hbase fun v' w' h1 h2 _ => h v' w' h1 h2
    cases l with
    | nil => intro j u hj; simp [cr] at hj
    | cons y l =>
      obtain ⟨b, o', hp, _⟩ := htx.rd (i := 0) rfl
      obtain rfl := Option.some.inj hp
      intro j u hj
      have h := htx.flat encI_len j u hj
      by_cases e : j = 0
      · subst e; simpa [Addr.add] using h
      · simpa [Addr.add, e] using h
theorem own_emptyS (W : World) : (W.alloc (.cells #[] 59)).ownsRow W.heap.size 59 5 (.slice (some ⟨W.heap.size, 0, none⟩) 0 0) 0 [] :=
  ⟨rfl, .inr ⟨W.heap.size, 0, #[], rfl, Nat.le_refl _, World.alloc_heap_new W _, Nat.le_refl _, Nat.zero_le _, rfl, rfl⟩⟩
theorem rvalid_b (n : Int) (vl vo : Value) (L : List Is) (out : List Int) (b : Bool) (w : World) (hl : Ix w vl L) (ho : Px w vo out) (hR : tvB n L out = b) :
    Calls Try.prog 28 #[.agg #[.int .i64 n, vl, vo]] w fun e w' => e = .returned (.bool b) ∧ Below w.heap.size w w' := by
  subst hR
  exact rvalid8_ok n vl vo L out w hl ho
section
variable {H : Type} {enc : TypeId × Value → H} {w : World} {base : Nat} {spare : Nat → Bool} {held : Bool}
/-- A slice of instructions as an argument, with its byte bound. -/
theorem open_insts8s {r : Reach} {b0 : Nat} {v : Value} {d : DataW H} {p : List MemPlace} (hv : Value.okWide Try.prog w r b0 22 v) (h : DataW.Trod enc Try.prog w base spare held 22 v d p)
    (hs : ∀ elems rest, d = .slice elems rest → (elems.length + rest.length) * Try.prog.bytesOf 59 ≤ reachBytes) :
    ∃ (q : Option Addr) (c : Nat) (l : List Is), v = .slice q l.length c ∧ (Ix w (.slice q l.length c) l ∧ ∀ x ∈ l, IW x) ∧ (q = none → c = 0) ∧ l.length * 40 ≤ 140737488351232 := by
  have hb : Try.prog.bytesOf 59 = 40 := by kernel_rfl
  obtain ⟨a, len, cap, rfl⟩ := okWide_slice Try.underlying22 hv
  obtain ⟨fuel, hf⟩ := h
  have hf : DataW.trod enc Try.prog w base spare held fuel 22 [.slice a len cap] = some (d, p) := hf
  obtain ⟨l, hl, hw⟩ := ix_read hf
  obtain ⟨q, c, e⟩ := hl.cut
  simp only [Value.slice.injEq] at e
  obtain ⟨rfl, rfl, rfl⟩ := e
  rcases Go.Deep.open_slice Try.underlying22 hf with ⟨hc, _⟩ | ⟨a', len', cap', m, n, D, Pl, hc, _, _, _, _, hx, _⟩
  · simp only [List.cons.injEq, Value.slice.injEq, and_true] at hc
    obtain ⟨rfl, h0, rfl⟩ := hc
    exact ⟨none, 0, l, rfl, ⟨hl, hw⟩, fun _ => rfl, by omega⟩
  · simp only [List.cons.injEq, Value.slice.injEq, and_true] at hc
    obtain ⟨rfl, rfl, rfl⟩ := hc
    have := hs _ _ (congrArg Prod.fst hx)
    rw [hb, List.length_map, List.length_range] at this
    exact ⟨_, cap, l, rfl, ⟨hl, hw⟩, fun e => (by cases e), by unfold reachBytes at this; omega⟩
end

theorem rx_at {W : World} {a : Addr} {v : Value} (h : W.cell? a = some v) (g : Grown W) : g.w.cell? a = some v := (grown_belowN g.h).cell h (fun e => by cases e)
theorem boxI_bd (l : List (Int × Int)) (n : Nat) {d : Int} (hd : 1 ≤ d) : ∀ p ∈ boxI l n d, -1048576 < p.1 ∧ p.1 < 1048576 ∧ p.1 ≤ p.2 ∧ p.2 < p.1 + d := by
  intro p hp
  unfold boxI at hp
  rw [List.mem_map] at hp
  obtain ⟨i, _, rfl⟩ := hp
  exact near_bd _ hd
theorem wrapI (n : Int) (h1 : -4611686018427387904 ≤ n) (h2 : n ≤ 4611686018427387904) : IntKind.i64.wrap n = n := wrapN n (by omega) (by omega)
theorem size_is (w : World) : (sizeOf (Try.prog.elem 22)).run Try.prog w = .ok 5 w := by simp [go_sem]
theorem opt_cut8 (n : Int) (vl vo : Value) (L C : List Is) (out oc : List Int) (w : World) (hl : Ix w vl L) (ho : Px w vo out) (htv : tvB n L out = true) (hR : optL L out = (C, oc)) :
    Calls Try.prog 19 #[.agg #[.int .i64 n, vl, vo]] w fun e w' => ∃ p q c d, e = .returned (.agg #[.int .i64 n, .slice p C.length c, .slice q oc.length d]) ∧ Ix w' (.slice p C.length c) C ∧ Px w' (.slice q oc.length d) oc ∧ Below w.heap.size w w' := by
  refine (opt_at n vl vo L C out oc w hl ho htv hR).mono ?_
  rintro e w' ⟨u, r, rfl, h1, h2, h3⟩
  obtain ⟨p, c, rfl⟩ := h1.cut
  obtain ⟨q, d, rfl⟩ := h2.cut
  exact ⟨p, q, c, d, rfl, h1, h2, h3⟩
set_option maxHeartbeats 64000000 in
theorem tdead (w : World) (vL vO vX : Value) (n0 lo hi : Int) (Lr : List Is) (outr : List Int) (Xr : List (Int × Int)) (hL : Ix w vL Lr ∧ ∀ x ∈ Lr, IW x) (hO : Px w vO outr ∧ ∀ x ∈ outr, W64 x) (hX : Vx w vX Xr ∧ ∀ q ∈ Xr, W64 q.1 ∧ W64 q.2) (hn : W64 n0) (hlo : W64 lo) (hhi : W64 hi) (yp : Option Addr) (yc : Nat) (Y : List Is) (hY : (Ix w (.slice yp Y.length yc) Y ∧ ∀ x ∈ Y, IW x) ∧ (yp = none → yc = 0) ∧ Y.length * 40 ≤ 140737488351232) :
    Calls Try.prog 9 #[.agg #[.int .i64 n0, vL, vO, vX, .int .i64 lo, .int .i64 hi], .slice yp Y.length yc] w fun e w' => e = .returned (.bool true) ∧ Below w.heap.size w w' := by
  obtain ⟨pl, cl, rfl⟩ := hL.1.cut
  obtain ⟨po, co, rfl⟩ := hO.1.cut
  obtain ⟨px, cx, rfl⟩ := hX.1.cut
  obtain ⟨s1, s2, hvs, hks⟩ := r2made lo hi hlo.1 hlo.2 hhi.1 hhi.2
  have HYC := Lib.hid hY.2.1
  have HYB := Lib.hid hY.2.2
  have HVS := Lib.hid hvs
  have KS := Lib.hid hks
  have hE : Below w.heap.size w (w.alloc (.cells #[.int .i64 n0, .slice pl Lr.length cl, .slice po outr.length co, .slice px Xr.length cx, .int .i64 lo, .int .i64 hi] 30)) := (Below.refl _ _).alloc (Nat.le_refl _) _
  have HQ := Lib.hid (show Blk (w.alloc (.cells #[.int .i64 n0, .slice pl Lr.length cl, .slice po outr.length co, .slice px Xr.length cx, .int .i64 lo, .int .i64 hi] 30)) w.heap.size (.cells #[.int .i64 n0, .slice pl Lr.length cl, .slice po outr.length co, .slice px Xr.length cx, .int .i64 lo, .int .i64 hi] 30) from World.alloc_heap_new w _)
  have HL := Lib.hid (hL.1.grow hE)
  have HO := Lib.hid (hO.1.grow hE)
  have HXV := Lib.hid (hX.1.grow hE)
  have HY := Lib.hid (hY.1.1.grow hE)
  have HW := Lib.hid hE
  clear hE hL hO hX hn hlo hhi hY hvs hks
  go_enter Try.func9, Try.ntmps9
  go_wp2_with (fail)
  refine (sanity8 _).mono ?_
  rintro e w1 ⟨rfl, hB⟩
  have HQ := Lib.hid (HQ.out.grow hB)
  have HL := Lib.hid (HL.out.grow hB)
  have HO := Lib.hid (HO.out.grow hB)
  have HXV := Lib.hid (HXV.out.grow hB)
  have HY := Lib.hid (HY.out.grow hB)
  have HW := Lib.hid (below_then HW.out hB)
  clear hB
  have q0 := heapN_cellj HQ.out (k := 0) rfl
  have q1 := heapN_cellj HQ.out (k := 1) rfl
  have q2 := heapN_cellj HQ.out (k := 2) rfl
  go_wp2_with (fail)
  refine (made8_ok n0 _ _ Lr outr 25 _ HL.out HO.out (by decide) (by decide)).mono ?_
  rintro e w2 ⟨N, T, O, u, r, rfl, hu, hr, htv, hN3, hT1, hT25, hB⟩
  have HTV := Lib.hid htv
  obtain ⟨hn1, hn6, h400, hon, hvl, hout⟩ := tv_cases htv
  obtain ⟨m, hm⟩ : ∃ m, O.length = m := ⟨_, rfl⟩
  have hNm : N = m := by omega
  subst hNm
  have HM := Lib.hid hm
  have HOUT := Lib.hid hout
  have hut := Rx.own encI_len hu (by unfold maxLen; omega)
  have hro := Rx.own (enc := enc1) (fun _ => rfl) hr (by unfold maxLen; omega)
  obtain ⟨pa, cu, rfl, hcu⟩ := own_some hu hT1
  obtain ⟨pu, hpu⟩ : ∃ pu, some pa = pu := ⟨_, rfl⟩
  have hpn : pu = none → cu = 0 := fun e => by rw [← hpu] at e; cases e
  rw [hpu] at hut hu ⊢
  have HPN := Lib.hid hpn
  obtain ⟨pr, cr', hrr⟩ := hro.cut
  rw [hm] at hrr
  subst hrr
  have hS : Below w2.heap.size w2 (w2.alloc (.cells #[.int .i64 N, .slice pu T.length cu, .slice pr N cr'] 25)) := (Below.refl _ _).alloc (Nat.le_refl _) _
  have HC := Lib.hid (show Blk (w2.alloc (.cells #[.int .i64 N, .slice pu T.length cu, .slice pr N cr'] 25)) w2.heap.size (.cells #[.int .i64 N, .slice pu T.length cu, .slice pr N cr'] 25) from World.alloc_heap_new w2 _)
  have HUT := Lib.hid (hut.grow hS)
  have HRO := Lib.hid (hro.grow hS)
  have HQ := Lib.hid ((HQ.out.grow hB).grow hS)
  have HXV := Lib.hid ((HXV.out.grow hB).grow hS)
  have HY := Lib.hid ((HY.out.grow hB).grow hS)
  have HW := Lib.hid (below_then (below_then HW.out hB) hS)
  clear hB hu hr htv q0 q1 q2 HL HO hon hm hn6 h400 hvl hout hut hro hS hcu hpu hpn
  go_wp2_with (fail)
  generalize hWc : World.alloc w2 _ = W5 at *
  clear hWc
  have q3 := fun g : Grown W5 => heapN_cellj (HQ.out.grow g.h) (k := 3) rfl
  have q4 := fun g : Grown W5 => heapN_cellj (HQ.out.grow g.h) (k := 4) rfl
  have q5 := fun g : Grown W5 => heapN_cellj (HQ.out.grow g.h) (k := 5) rfl
  have k0 := fun g : Grown W5 => heapN_cellj (HC.out.grow g.h) (k := 0) rfl
  refine region_pred_g (fun σ_ => lk [(15, fun z_ _ => z_ = .pointer (some ⟨w.heap.size, 3, none⟩)), (16, fun z_ _ => z_ = .slice px Xr.length cx), (17, fun z_ _ => z_ = .pointer (some ⟨w2.heap.size, 0, none⟩)), (18, fun z_ _ => z_ = .int .i64 N), (19, fun z_ w' => ∃ p_ c_ B_, z_ = .slice p_ N c_ ∧ W5.heap.size ≤ B_ ∧ w'.ownsRow B_ 28 2 (.slice p_ N c_) N (cr encB (boxI Xr N 200000))), (20, fun z_ _ => z_ = .pointer (some ⟨w.heap.size, 4, none⟩)), (21, fun z_ _ => z_ = .agg #[.int .i64 lo, .int .i64 hi]), (22, fun z_ _ => z_ = .agg #[.int .i64 s1, .int .i64 s2]), (8, fun z_ w' => ∃ X_, z_ = .pointer (some ⟨X_, 0, none⟩) ∧ W5.heap.size ≤ X_ ∧ w'.heap[X_]? = some (.cells (if σ_ 10 = true then #[(.int .i64 s1), (.int .i64 s2)] else #[(.int .i64 0), (.int .i64 0)]) 28 (0, 0))), (7, fun _ _ => True)]) (kk [(19, Value.ownBlock), (8, ptrK)]) [(10, 8)] [(7, 19)] (by kernel_rfl) (by kernel_rfl) ?_ (fun σ_ => lk_steady _ ⟨steady_eq _, steady_eq _, steady_eq _, steady_eq _, fun u w1 w2 hb ⟨p, c, B, e, h1, h2⟩ => ⟨p, c, B, e, h1, own_keptN h2 hb⟩, steady_eq _, steady_eq _, steady_eq _, fun u w1 w2 hb ⟨X, e, h1, h2⟩ => ⟨X, e, h1, (hb.block X (Array.getElem?_eq_some_iff.1 h2).1).trans h2⟩, fun _ _ _ _ _ => trivial, trivial⟩) ?_ ?_ ?_ ?_
  · intro x hx
    simp only [List.mem_cons, List.not_mem_nil, or_false] at hx
    rcases hx with rfl
    · exact ⟨9, _, 4, _, rfl, rfl, rfl, rfl, rfl, by first | decide | decide +kernel, fun a w => by first | rfl | simp [go_sem]⟩
  · intro σ_ t v w b h hb
    refine kk_lt (fun x hx e hl hb => ?_) h hb
    simp only [List.mem_cons, List.not_mem_nil, or_false] at hx
    rcases hx with rfl | rfl
    · subst e
      obtain ⟨p, c, B, rfl, hB, ho⟩ := hl
      exact (ho.lt b hb).2
    · subst e
      obtain ⟨X, rfl, hX, hI⟩ := hl
      obtain rfl : X = b := Option.some.inj hb
      exact (Array.getElem?_eq_some_iff.1 hI).1
  · refine ⟨?_, ?_, ?_, ?_, ?_, ?_, ?_, ?_, ?_, ?_, ?_, trivial⟩
    · intro _ σ_ hσ
      refine oblg_of (ob_plain [2] rfl rfl fun aa g h => ?_) (fun d v hd => by cases hd; rfl)
      have yy0 := seen_out (v := .pointer (some ⟨w.heap.size, 0, none⟩)) rfl rfl h.1
      have ee0 := getD_of yy0
      exact tupon_value (v := .pointer (some ⟨w.heap.size, 3, none⟩)) (by simp [go_sem, ee0, yy0]) (Below.refl _ _) rfl
    · intro _ σ_ hσ
      refine oblg_of (ob_plain [15] rfl rfl fun aa g h => ?_) (fun d v hd => by cases hd; rfl)
      obtain ⟨_, yy0, rfl⟩ := seen_in rfl h.1
      have ee0 := getD_of yy0
      exact tupon_value (v := .slice px Xr.length cx) (by simp [go_sem, ee0, yy0, q3 g]) (Below.refl _ _) rfl
    · intro _ σ_ hσ
      refine oblg_of (ob_plain [6] rfl rfl fun aa g h => ?_) (fun d v hd => by cases hd; rfl)
      have yy0 := seen_out (v := .pointer (some ⟨w2.heap.size, 0, none⟩)) rfl rfl h.1
      have ee0 := getD_of yy0
      exact tupon_value (v := .pointer (some ⟨w2.heap.size, 0, none⟩)) (by simp [go_sem, ee0, yy0]) (Below.refl _ _) rfl
    · intro _ σ_ hσ
      refine oblg_of (ob_plain [17] rfl rfl fun aa g h => ?_) (fun d v hd => by cases hd; rfl)
      obtain ⟨_, yy0, rfl⟩ := seen_in rfl h.1
      have ee0 := getD_of yy0
      exact tupon_value (v := .int .i64 N) (by simp [go_sem, ee0, yy0, k0 g]) (Below.refl _ _) rfl
    · intro _ σ_ hσ
      refine oblg_plain [16, 18] rfl rfl fun aa g h => ?_
      obtain ⟨_, yy0, rfl⟩ := seen_in rfl h.1
      have ee0 := getD_of yy0
      obtain ⟨_, yy1, rfl⟩ := seen_in rfl h.2.1
      have ee1 := getD_of yy1
      refine tupon_enter (f := 12) (args := #[.slice px Xr.length cx, .int .i64 N, .int .i64 200000]) (by simp [go_sem, ee0, yy0, ee1, yy1]) rfl ?_
      exact (boxes_ok _ Xr N 200000 g.w (HXV.out.grow g.h) (by omega) (by decide) (by decide)).mono fun e w' ⟨p, c, he, hown, hB⟩ => ⟨_, he, hB, ⟨p, c, _, rfl, g.h.size, hown⟩, fun d b hd hb => by cases hd; exact (hown.lt b hb).1⟩
    · intro _ σ_ hσ
      refine oblg_of (ob_plain [2] rfl rfl fun aa g h => ?_) (fun d v hd => by cases hd; rfl)
      have yy0 := seen_out (v := .pointer (some ⟨w.heap.size, 0, none⟩)) rfl rfl h.1
      have ee0 := getD_of yy0
      exact tupon_value (v := .pointer (some ⟨w.heap.size, 4, none⟩)) (by simp [go_sem, ee0, yy0]) (Below.refl _ _) rfl
    · intro _ σ_ hσ
      refine oblg_of (ob_plain [20] rfl rfl fun aa g h => ?_) (fun d v hd => by cases hd; rfl)
      obtain ⟨_, yy0, rfl⟩ := seen_in rfl h.1
      have ee0 := getD_of yy0
      exact tupon_value (v := .agg #[.int .i64 lo, .int .i64 hi]) (by simp [go_sem, ee0, yy0, q4 g, q5 g]) (Below.refl _ _) rfl
    · intro _ σ_ hσ
      refine oblg_of (ob_plain [21] rfl rfl fun aa g h => ?_) (fun d v hd => by cases hd; rfl)
      obtain ⟨_, yy0, rfl⟩ := seen_in rfl h.1
      have ee0 := getD_of yy0
      refine tupon_enter (f := 13) (args := #[.agg #[.int .i64 lo, .int .i64 hi]]) (by simp [go_sem, ee0, yy0]) rfl ?_
      exact (KS.out g.w).mono fun e w' ⟨he, hB⟩ => ⟨_, he, hB, rfl⟩
    · intro _ σ_ hσ
      have hsx : σ_ 10 = false := by
        cases e : σ_ 10 with
        | false => rfl
        | true => exact absurd (hσ 10 _ e rfl) (by first | decide | decide +kernel)
      refine oblg_plain [] rfl rfl fun aa g h => ?_
      exact tupon_value (v := .pointer (some ⟨g.w.heap.size, 0, none⟩)) (w1 := g.w.alloc (.cells #[(.int .i64 0), (.int .i64 0)] 28)) (by simp [go_sem]) ((Below.refl _ _).alloc (Nat.le_refl _) _) ⟨⟨_, rfl, g.h.size, by rw [if_neg (by rw [hsx]; exact Bool.false_ne_true)]; exact World.alloc_heap_new _ _⟩, fun d b hd hb => by cases hd; obtain rfl := Option.some.inj hb; exact Nat.le_refl _⟩
    · intro _ σ_ hσ
      refine oblg_of (ob_plain [19] rfl rfl fun aa g h => ?_) (fun d v hd => by cases hd; rfl)
      obtain ⟨v0, yy0, _⟩ := seen_in rfl h.1
      have ee0 := getD_of yy0
      exact tupon_value (v := v0) (by simp [go_sem, ee0, yy0]) (Below.refl _ _) trivial
    · exact fun h => absurd h (by decide)
  · intro i p os hm hos
    simp only [List.mem_cons, List.not_mem_nil, or_false, Prod.mk.injEq] at hm
    rcases hm with ⟨rfl, rfl⟩
    · obtain rfl := Option.some.inj hos
      intro σ_ aa gg hσ h
      obtain ⟨_, r0, X, rfl, hX, hI⟩ := seen_in rfl h.1
      have e0 := getD_of r0
      obtain ⟨_, r1, rfl⟩ := seen_in rfl h.2.1
      have e1 := getD_of r1
      rw [if_neg (by rw [hσ]; exact Bool.false_ne_true)] at hI
      have q0 := heapN_cellj hI (k := 0) rfl
      have z0 : gg.w.frozen? ⟨X, 0, none⟩ = false := by simp [World.frozen?, hI]
      have q1 := heapN_cellj hI (k := 1) rfl
      have z1 : gg.w.frozen? ⟨X, 1, none⟩ = false := by simp [World.frozen?, hI]
      refine ⟨((gg.w.setCell ⟨X, 0, none⟩ ((.int .i64 s1))).setCell ⟨X, 1, none⟩ ((.int .i64 s2))), by simp [go_sem, e0, r0, e1, r1, q0, z0, q1, z1], ((gg.h.setCell (p := ⟨X, 0, none⟩) hX _).setCell (p := ⟨X, 1, none⟩) hX _), fun t v hv hne hΦ => lk_pair ?_ hΦ⟩
      refine ⟨rfl, fun _ h => h, rfl, fun _ h => h, rfl, fun _ h => h, rfl, fun _ h => h, rfl, ?_, rfl, fun _ h => h, rfl, fun _ h => h, rfl, fun _ h => h, rfl, ?_, rfl, fun _ h => h, trivial⟩
      · intro e hx
        subst e
        obtain ⟨p, c, B, rfl, hB, ho⟩ := hx
        have hn := hne (by decide) _ X r0 rfl
        exact ⟨p, c, B, rfl, hB, ((ho.kept (grownBy_setN _ ⟨X, 0, none⟩ _) (.inr hn)).kept (grownBy_setN _ ⟨X, 1, none⟩ _) (.inr hn))⟩
      · intro e hx
        subst e
        obtain ⟨X', rfl, hX', hI'⟩ := hx
        rw [r0] at hv
        have e := Option.some.inj hv
        simp only [Value.pointer.injEq, Option.some.injEq, Addr.mk.injEq, and_true] at e
        subst e
        exact ⟨X, rfl, hX, by rw [if_pos (updS_self _ _)]; exact cellsT_setN (o := 1) (u := (.int .i64 s2)) (cellsT_setN (o := 0) (u := (.int .i64 s1)) (hI))⟩
  rintro w6 hB6 _ rfl _ rfl _ rfl _ rfl _ ⟨p19, c19, B19, rfl, hB19, ho19⟩ _ rfl _ rfl _ rfl _ ⟨X8, rfl, hX8, hI8⟩ v7 -
  simp only [Act.put, List.setIfInBounds_toArray, List.set_cons_succ, List.set_cons_zero, List.filterMap_nil, finP]
  intro hdis hcp
  have e7 : v7 = .slice p19 N c19 := Option.some.inj (hcp (7, 19) (by simp))
  subst e7
  obtain ⟨l, hl⟩ : ∃ l, boxI Xr N 200000 = l := ⟨_, rfl⟩
  have hlen := boxI_len Xr N 200000
  have hbd := boxI_bd Xr N (d := 200000) (by decide)
  rw [hl] at ho19 hlen hbd
  have hvx : Vx w6 (.slice p19 N c19) l := by
    have h := ho19
    rw [← hlen] at h
    have := Rx.own encB_len h (by unfold maxLen; omega)
    rw [hlen] at this
    exact this
  have HLEN := Lib.hid hlen
  have HVI := Lib.hid (show ∀ p ∈ l, VI p.1 p.2 from fun p hp => by
    have := hbd p hp
    unfold VI Num
    omega)
  have HI := Lib.hid (show Blk w6 X8 (.cells #[.int .i64 s1, .int .i64 s2] 28) from hI8)
  have HVX := Lib.hid hvx
  have HC := Lib.hid (HC.out.grow hB6)
  have HUT := Lib.hid (HUT.out.grow hB6)
  have HRO := Lib.hid (HRO.out.grow hB6)
  have HY := Lib.hid (HY.out.grow hB6)
  have HW := Lib.hid (below_then HW.out hB6)
  have hown0 := own_emptyS w6
  have hS : Below w6.heap.size w6 (w6.alloc (.cells #[] 59)) := (Below.refl _ _).alloc (Nat.le_refl _) _
  have k1 := heapN_cellj (HC.out.grow hS) (k := 1) rfl
  clear hdis hcp hl hlen hbd ho19 hI8 hB6 q3 q4 q5 k0 hB19 hX8 hvx HQ HXV
  go_wp2_with (at_builtin; refine wpList_append_is rfl (.tmp 23) (.tmp 25) rfl w6.heap.size (.slice (some ⟨w6.heap.size, 0, none⟩) 0 0) 0 [] rfl hown0 pu cu T rfl (HUT.out.grow hS) HPN.out (by unfold maxLen; omega) (by omega) hS.size ?_)
  intro v7 w7 hown7 hgrow
  have hB7 := hS.grown hgrow hS.size (fun k hk => (hown0.lt k hk).1)
  have HY7 := Lib.hid (HY.out.grow hB7)
  have HB := Lib.hid hB7
  try simp only [Nat.zero_add, List.nil_append] at hown7
  obtain ⟨p7, c7, rfl⟩ := own_cut hown7
  have HO7 := Lib.hid hown7
  clear hown0 hS hgrow hown7 hB7 k1
  go_wp2_with (at_builtin; refine wpList_append_is rfl (.tmp 26) (.tmp 27) rfl w6.heap.size (.slice p7 T.length c7) T.length _ rfl HO7.out yp yc Y rfl HY7.out HYC.out (by have := HYB.out; unfold maxLen; omega) (by have := HYB.out; omega) HB.out.size ?_)
  intro v8 w8 hown8 hgrow
  obtain ⟨p8, c8, rfl⟩ := own_cut hown8
  have hB8 := HB.out.grown hgrow HB.out.size (fun k hk => (HO7.out.lt k hk).1)
  have hix : Ix w8 (.slice p8 (T.length + Y.length) c8) (T ++ Y) := by
    have e : cr encI (T ++ Y) = cr encI T ++ cr encI Y := by simp [cr]
    have h : w8.ownsRow w6.heap.size 59 5 (.slice p8 (T.length + Y.length) c8) (T ++ Y).length (cr encI (T ++ Y)) := by
      rw [e, List.length_append]
      exact hown8
    exact Rx.own encI_len h (by have := HYB.out; unfold maxLen; rw [List.length_append]; omega)
  have HC := Lib.hid (HC.out.grow hB8)
  have HUT := Lib.hid (HUT.out.grow hB8)
  have HRO := Lib.hid (HRO.out.grow hB8)
  have HI := Lib.hid (HI.out.grow hB8)
  have HVX := Lib.hid (HVX.out.grow hB8)
  have HW := Lib.hid (below_then HW.out hB8)
  have HIX := Lib.hid hix
  have k0 := heapN_cellj HC.out (k := 0) rfl
  have k2 := heapN_cellj HC.out (k := 2) rfl
  have U1 : IntKind.i64.wrap ((N : Int) - 1) = (N : Int) - 1 := wrapI _ (by omega) (by omega)
  clear hown8 hgrow hB8 hix HO7 HY7 HB HY
  go_wp2_with (fail)
  refine (made8_ok ((N : Int) - 1) _ _ (T ++ Y) O 50 _ HIX.out HRO.out (by decide) (by decide)).mono ?_
  rintro e w9 ⟨N2, T2, O2, u2, r2, rfl, hu2, hr2, htv2, hN32, hT12, hT50, hB⟩
  have hut2 := Rx.own encI_len hu2 (by unfold maxLen; omega)
  have hon2 := (tv_cases htv2).2.2.2.1
  have hro2 := Rx.own (enc := enc1) (fun _ => rfl) hr2 (by unfold maxLen; omega)
  obtain ⟨pd, cd, rfl, hcd⟩ := own_some hu2 hT12
  obtain ⟨pr2, cr2, rfl⟩ := hro2.cut
  have hS : Below w9.heap.size w9 (w9.alloc (.cells #[.int .i64 N2, .slice (some pd) T2.length cd, .slice pr2 O2.length cr2] 25)) := (Below.refl _ _).alloc (Nat.le_refl _) _
  have HD := Lib.hid (show Blk (w9.alloc (.cells #[.int .i64 N2, .slice (some pd) T2.length cd, .slice pr2 O2.length cr2] 25)) w9.heap.size (.cells #[.int .i64 N2, .slice (some pd) T2.length cd, .slice pr2 O2.length cr2] 25) from World.alloc_heap_new w9 _)
  have HIX2 := Lib.hid (hut2.grow hS)
  have HCD := Lib.hid hcd
  have HC9 := Lib.hid (HC.out.grow hB)
  have HUT9 := Lib.hid (HUT.out.grow hB)
  have HRO9 := Lib.hid (HRO.out.grow hB)
  have HI9 := Lib.hid (HI.out.grow hB)
  have HVX9 := Lib.hid (HVX.out.grow hB)
  have HW9 := Lib.hid (below_then HW.out hB)
  have HS9 := Lib.hid hS
  have HC := Lib.hid ((HC.out.grow hB).grow hS)
  have HUT := Lib.hid ((HUT.out.grow hB).grow hS)
  clear HRO HI HVX HW
  have hlt9 : w9.heap.size < (w9.alloc (.cells #[.int .i64 N2, .slice (some pd) T2.length cd, .slice pr2 O2.length cr2] 25)).heap.size := by rw [alloc_sz]; omega
  clear hB hS hu2 hr2 htv2 hut2 hro2 hcd hon2 k0 k2 U1 HIX
  go_wp2_with (fail)
  generalize hWc : World.alloc w9 _ = W6 at *
  clear hWc
  have k1 := fun g : Grown W6 => heapN_cellj (HC.out.grow g.h) (k := 1) rfl
  have d1 := fun g : Grown W6 => heapN_cellj (HD.out.grow g.h) (k := 1) rfl
  obtain ⟨k, hk⟩ : ∃ k, min T.length T2.length = k := ⟨_, rfl⟩
  have hmin : min (T.length : Int) (T2.length : Int) = (k : Int) := by omega
  have hk2 : k ≤ T2.length := by omega
  obtain ⟨q, cq, S, hSV, hS, hSl⟩ : ∃ q cq, ∃ S : List Is, Value.slice (if cd = k then some pd else (some pd).map (·.add (k * 5))) (T2.length - k) (cd - k) = .slice (some q) S.length cq ∧ Ix W6 (.slice (some q) S.length cq) S ∧ S.length ≤ 50 := by
    obtain ⟨q, hq, hrx⟩ := cut_end HIX2.out HCD.out hT12 hk2
    refine ⟨q, cd - k, T2.drop k, by rw [hq, List.length_drop], by rw [List.length_drop]; exact hrx, by rw [List.length_drop]; omega⟩
  have HS := Lib.hid hS
  have HSV := Lib.hid hSV
  obtain ⟨hnS, hcS⟩ := rx_news encI_len HS.out
  obtain ⟨hnT, hcT⟩ := rx_news encI_len HUT.out
  obtain ⟨i0, hi0, hz0, hz1, hz2⟩ := info_parts info_is
  clear hS hSV
  refine region_pred_h (fun σ_ => lk [(37, fun z_ w' => if σ_ 3 = true then True else ∃ p_ c_ B_, z_ = .slice p_ (0) c_ ∧ W6.heap.size ≤ B_ ∧ w'.ownsRow B_ 59 5 (.slice p_ (0) c_) (0) ([])), (38, fun z_ _ => z_ = .pointer (some ⟨w2.heap.size, 1, none⟩)), (39, fun z_ _ => z_ = .slice pu T.length cu), (40, fun z_ w' => if σ_ 14 = true then True else ∃ p_ c_ B_, z_ = .slice p_ (0 + T.length) c_ ∧ W6.heap.size ≤ B_ ∧ w'.ownsRow B_ 59 5 (.slice p_ (0 + T.length) c_) (0 + T.length) ([] ++ cr encI T)), (41, fun z_ _ => z_ = .pointer (some ⟨w9.heap.size, 1, none⟩)), (42, fun z_ _ => z_ = .slice (some pd) T2.length cd), (43, fun z_ _ => z_ = .pointer (some ⟨w2.heap.size, 1, none⟩)), (44, fun z_ _ => z_ = .slice pu T.length cu), (45, fun z_ _ => z_ = .int .i64 T.length), (46, fun z_ _ => z_ = .pointer (some ⟨w9.heap.size, 1, none⟩)), (47, fun z_ _ => z_ = .slice (some pd) T2.length cd), (48, fun z_ _ => z_ = .int .i64 T2.length), (49, fun z_ _ => z_ = .int .i64 (k : Int)), (50, fun z_ _ => z_ = .slice (some q) S.length cq), (51, fun z_ w' => ∃ p_ c_ B_, z_ = .slice p_ (0 + T.length + S.length) c_ ∧ W6.heap.size ≤ B_ ∧ w'.ownsRow B_ 59 5 (.slice p_ (0 + T.length + S.length) c_) (0 + T.length + S.length) ([] ++ cr encI T ++ cr encI S)), (52, fun z_ _ => z_ = .pointer (some ⟨w9.heap.size, 1, none⟩))]) (kk [(37, Value.ownBlock), (40, Value.ownBlock), (51, Value.ownBlock)]) [] [(3, 37), (14, 40)] 16 [] (by kernel_rfl) (by kernel_rfl) ?_ (fun σ_ => lk_steady _ ⟨fun u w1 w2 hb h => ifN (fun _ ⟨p, c, B, e, h1, h2⟩ => ⟨p, c, B, e, h1, own_keptN h2 hb⟩) h, steady_eq _, steady_eq _, fun u w1 w2 hb h => ifN (fun _ ⟨p, c, B, e, h1, h2⟩ => ⟨p, c, B, e, h1, own_keptN h2 hb⟩) h, steady_eq _, steady_eq _, steady_eq _, steady_eq _, steady_eq _, steady_eq _, steady_eq _, steady_eq _, steady_eq _, steady_eq _, fun u w1 w2 hb ⟨p, c, B, e, h1, h2⟩ => ⟨p, c, B, e, h1, own_keptN h2 hb⟩, steady_eq _, trivial⟩) ?_ ?_ ?_ ?_ ?_
  · intro x hx
    cases hx
  · intro σ_ t v w b h hb
    have hf := kA_free hb
    refine kk_lt (fun x hx e hl hb2 => ?_) h (kA_le hb)
    simp only [List.mem_cons, List.not_mem_nil, or_false] at hx
    rcases hx with rfl | rfl | rfl
    · subst e
      obtain ⟨p, c, B, rfl, hB, ho⟩ := ifF (not_cons (i := 3) hf (by decide)) hl
      exact (ho.lt b hb2).2
    · subst e
      obtain ⟨p, c, B, rfl, hB, ho⟩ := ifF (not_cons (i := 14) hf (by decide)) hl
      exact (ho.lt b hb2).2
    · subst e
      obtain ⟨p, c, B, rfl, hB, ho⟩ := hl
      exact (ho.lt b hb2).2
  · refine ⟨?_, ?_, ?_, ?_, ?_, ?_, ?_, ?_, ?_, ?_, ?_, ?_, ?_, ?_, ?_, ?_, ?_, trivial⟩
    · intro _ _ _ σ_ hσ
      refine oblg_plain [] rfl rfl fun aa g h => ?_
      exact tupon_value (v := .slice (some ⟨g.w.heap.size, 0, none⟩) 0 0) (w1 := g.w.alloc (.cells #[] 59)) (by simp [go_sem]) ((Below.refl _ _).alloc (Nat.le_refl _) _) ⟨(ifI ⟨_, _, _, rfl, g.h.size, own_emptyS _⟩), fun d b hd hb => by cases hd; obtain rfl := Option.some.inj hb; exact Nat.le_refl _⟩
    · intro _ _ _ σ_ hσ
      refine oblg_of (ob_plain [6] rfl rfl fun aa g h => ?_) (fun d v hd => by cases hd; rfl)
      have yy0 := seen_out (v := .pointer (some ⟨w2.heap.size, 0, none⟩)) rfl rfl h.1
      have ee0 := getD_of yy0
      exact tupon_value (v := .pointer (some ⟨w2.heap.size, 1, none⟩)) (by simp [go_sem, ee0, yy0]) (Below.refl _ _) rfl
    · intro _ _ _ σ_ hσ
      refine oblg_of (ob_plain [38] rfl rfl fun aa g h => ?_) (fun d v hd => by cases hd; rfl)
      obtain ⟨_, yy0, rfl⟩ := seen_in rfl h.1
      have ee0 := getD_of yy0
      exact tupon_value (v := .slice pu T.length cu) (by simp [go_sem, ee0, yy0, k1 g]) (Below.refl _ _) rfl
    · exact fun _ h => absurd h (by decide)
    · intro _ _ _ σ_ hσ
      refine oblg_of (ob_plain [10] rfl rfl fun aa g h => ?_) (fun d v hd => by cases hd; rfl)
      have yy0 := seen_out (v := .pointer (some ⟨w9.heap.size, 0, none⟩)) rfl rfl h.1
      have ee0 := getD_of yy0
      exact tupon_value (v := .pointer (some ⟨w9.heap.size, 1, none⟩)) (by simp [go_sem, ee0, yy0]) (Below.refl _ _) rfl
    · intro _ _ _ σ_ hσ
      refine oblg_of (ob_plain [41] rfl rfl fun aa g h => ?_) (fun d v hd => by cases hd; rfl)
      obtain ⟨_, yy0, rfl⟩ := seen_in rfl h.1
      have ee0 := getD_of yy0
      exact tupon_value (v := .slice (some pd) T2.length cd) (by simp [go_sem, ee0, yy0, d1 g]) (Below.refl _ _) rfl
    · intro _ _ _ σ_ hσ
      refine oblg_of (ob_plain [6] rfl rfl fun aa g h => ?_) (fun d v hd => by cases hd; rfl)
      have yy0 := seen_out (v := .pointer (some ⟨w2.heap.size, 0, none⟩)) rfl rfl h.1
      have ee0 := getD_of yy0
      exact tupon_value (v := .pointer (some ⟨w2.heap.size, 1, none⟩)) (by simp [go_sem, ee0, yy0]) (Below.refl _ _) rfl
    · intro _ _ _ σ_ hσ
      refine oblg_of (ob_plain [43] rfl rfl fun aa g h => ?_) (fun d v hd => by cases hd; rfl)
      obtain ⟨_, yy0, rfl⟩ := seen_in rfl h.1
      have ee0 := getD_of yy0
      exact tupon_value (v := .slice pu T.length cu) (by simp [go_sem, ee0, yy0, k1 g]) (Below.refl _ _) rfl
    · intro _ _ _ σ_ hσ
      refine oblg_of (ob_plain [44] rfl rfl fun aa g h => ?_) (fun d v hd => by cases hd; rfl)
      obtain ⟨_, yy0, rfl⟩ := seen_in rfl h.1
      have ee0 := getD_of yy0
      exact tupon_value (v := .int .i64 T.length) (by simp [go_sem, ee0, yy0]) (Below.refl _ _) rfl
    · intro _ _ _ σ_ hσ
      refine oblg_of (ob_plain [10] rfl rfl fun aa g h => ?_) (fun d v hd => by cases hd; rfl)
      have yy0 := seen_out (v := .pointer (some ⟨w9.heap.size, 0, none⟩)) rfl rfl h.1
      have ee0 := getD_of yy0
      exact tupon_value (v := .pointer (some ⟨w9.heap.size, 1, none⟩)) (by simp [go_sem, ee0, yy0]) (Below.refl _ _) rfl
    · intro _ _ _ σ_ hσ
      refine oblg_of (ob_plain [46] rfl rfl fun aa g h => ?_) (fun d v hd => by cases hd; rfl)
      obtain ⟨_, yy0, rfl⟩ := seen_in rfl h.1
      have ee0 := getD_of yy0
      exact tupon_value (v := .slice (some pd) T2.length cd) (by simp [go_sem, ee0, yy0, d1 g]) (Below.refl _ _) rfl
    · intro _ _ _ σ_ hσ
      refine oblg_of (ob_plain [47] rfl rfl fun aa g h => ?_) (fun d v hd => by cases hd; rfl)
      obtain ⟨_, yy0, rfl⟩ := seen_in rfl h.1
      have ee0 := getD_of yy0
      exact tupon_value (v := .int .i64 T2.length) (by simp [go_sem, ee0, yy0]) (Below.refl _ _) rfl
    · intro _ _ _ σ_ hσ
      refine oblg_of (ob_plain [45, 48] rfl rfl fun aa g h => ?_) (fun d v hd => by cases hd; rfl)
      obtain ⟨_, yy0, rfl⟩ := seen_in rfl h.1
      have ee0 := getD_of yy0
      obtain ⟨_, yy1, rfl⟩ := seen_in rfl h.2.1
      have ee1 := getD_of yy1
      exact tupon_value (v := _) (exec_min (.tmp 45) (.tmp 48) _ rfl (T.length : Int) (T2.length : Int) (by simp [Act.eval, ee0]) (by simp [Act.eval, ee1])) (Below.refl _ _) (congrArg (Value.int .i64) hmin)
    · intro _ _ _ σ_ hσ
      refine oblg_of (ob_plain [42, 49] rfl rfl fun aa g h => ?_) (fun d v hd => by cases hd; rfl)
      obtain ⟨_, yy0, rfl⟩ := seen_in rfl h.1
      have ee0 := getD_of yy0
      obtain ⟨_, yy1, rfl⟩ := seen_in rfl h.2.1
      have ee1 := getD_of yy1
      exact tupon_value (v := _) (exec_cut 22 (.tmp 42) (.tmp 49) rfl Try.underlying22 5 (size_is _) (some pd) T2.length cd (k : Int) (by simp [Act.eval, ee0]) (by simp [Act.eval, ee1]) (by omega) (by omega)) (Below.refl _ _) HSV.out
    · exact fun _ h => absurd h (by decide)
    · intro _ _ _ σ_ hσ
      refine oblg_of (ob_plain [10] rfl rfl fun aa g h => ?_) (fun d v hd => by cases hd; rfl)
      have yy0 := seen_out (v := .pointer (some ⟨w9.heap.size, 0, none⟩)) rfl rfl h.1
      have ee0 := getD_of yy0
      exact tupon_value (v := .pointer (some ⟨w9.heap.size, 1, none⟩)) (by simp [go_sem, ee0, yy0]) (Below.refl _ _) rfl
    · exact fun _ _ h => absurd rfl h
  · intro i p os hm hos
    cases hm
  · intro i p os hm hos
    simp only [List.mem_cons, List.not_mem_nil, or_false, Prod.mk.injEq] at hm
    rcases hm with ⟨rfl, rfl⟩ | ⟨rfl, rfl⟩
    · obtain rfl := Option.some.inj hos
      intro σ_ aa gg d hd hσ h
      obtain rfl := Option.some.inj hd
      obtain ⟨v0, r0, hx0⟩ := seen_in rfl h.1
      obtain ⟨p0, c0, B0, rfl, hB0, ho0⟩ := ifF hσ hx0
      have e0 := getD_of r0
      obtain ⟨_, r1, rfl⟩ := seen_in rfl h.2.1
      have e1 := getD_of r1
      refine app_go gg (.tmp 37) (.tmp 39) 22 59 i0 (.agg #[.int .i64 0, .int .i64 0, .int .i64 0, .int .i64 0, .int .i64 0]) 5 40 rfl Try.underlying22 hi0 hz0 hz1 hz2 rfl (by decide) (.slice p0 (0) c0) (0) ([]) (by simp [Act.eval, r0]) (own_base ho0 hB0) pu (T.length) cu (cr encI T) (by simp [Act.eval, r1]) (fun e => by have h2 := hnT e; rw [h2] at hT1; exact absurd hT1 (by decide)) (cr_len encI_len T) (fun ad e j u hj => rx_at (hcT ad e j u hj) gg) (encI_one T) (by unfold maxLen; omega) (by omega) ?_
      intro p' c' w' hown' hgrow hblk
      refine ⟨fun t v ht hv hne hΦ => lk_pair ?_ hΦ, ?_, fun b hb => (hblk b hb).imp id (fun h0 => ⟨_, r0, ((kA_of (cons_only (i := 3) (by decide) hσ)).trans h0)⟩)⟩
      · refine ⟨rfl, ?_, rfl, fun _ h => h, rfl, fun _ h => h, rfl, ?_, rfl, fun _ h => h, rfl, fun _ h => h, rfl, fun _ h => h, rfl, fun _ h => h, rfl, fun _ h => h, rfl, fun _ h => h, rfl, fun _ h => h, rfl, fun _ h => h, rfl, fun _ h => h, rfl, fun _ h => h, rfl, ?_, rfl, fun _ h => h, trivial⟩
        · intro e hx
          subst e
          rw [if_pos (updS_self _ _)]
          trivial
        · exact fun e _ => absurd e.symm ht
        · intro e hx
          subst e
          obtain ⟨p, c, B, rfl, hB, ho⟩ := hx
          exact ⟨p, c, B, rfl, hB, kept_h ho hgrow (fun b hb e2 => hne (by decide) _ b r0 ((kA_of (cons_only (i := 3) (by decide) hσ)).trans hb) ((kA_of (cons_no (by decide))).trans e2))⟩
      · show (fun (z_ : Value) (w' : World) => if (updS σ_ 3) 14 = true then True else ∃ p_ c_ B_, z_ = .slice p_ (0 + T.length) c_ ∧ W6.heap.size ≤ B_ ∧ w'.ownsRow B_ 59 5 (.slice p_ (0 + T.length) c_) (0 + T.length) ([] ++ cr encI T)) (.slice p' (0 + T.length) c') w'
        exact ifI ⟨p', c', _, rfl, Nat.le_refl _, hown'⟩
    · obtain rfl := Option.some.inj hos
      intro σ_ aa gg d hd hσ h
      obtain rfl := Option.some.inj hd
      obtain ⟨v0, r0, hx0⟩ := seen_in rfl h.1
      obtain ⟨p0, c0, B0, rfl, hB0, ho0⟩ := ifF hσ hx0
      have e0 := getD_of r0
      obtain ⟨_, r1, rfl⟩ := seen_in rfl h.2.1
      have e1 := getD_of r1
      refine app_go gg (.tmp 40) (.tmp 50) 22 59 i0 (.agg #[.int .i64 0, .int .i64 0, .int .i64 0, .int .i64 0, .int .i64 0]) 5 40 rfl Try.underlying22 hi0 hz0 hz1 hz2 rfl (by decide) (.slice p0 (0 + T.length) c0) (0 + T.length) ([] ++ cr encI T) (by simp [Act.eval, r0]) (own_base ho0 hB0) (some q) (S.length) cq (cr encI S) (by simp [Act.eval, r1]) (fun e => by cases e) (cr_len encI_len S) (fun ad e j u hj => rx_at (hcS ad e j u hj) gg) (encI_one S) (by unfold maxLen; omega) (by omega) ?_
      intro p' c' w' hown' hgrow hblk
      refine ⟨fun t v ht hv hne hΦ => lk_pair ?_ hΦ, ?_, fun b hb => (hblk b hb).imp id (fun h0 => ⟨_, r0, ((kA_of (cons_only (i := 14) (by decide) hσ)).trans h0)⟩)⟩
      · refine ⟨rfl, ?_, rfl, fun _ h => h, rfl, fun _ h => h, rfl, ?_, rfl, fun _ h => h, rfl, fun _ h => h, rfl, fun _ h => h, rfl, fun _ h => h, rfl, fun _ h => h, rfl, fun _ h => h, rfl, fun _ h => h, rfl, fun _ h => h, rfl, fun _ h => h, rfl, fun _ h => h, rfl, ?_, rfl, fun _ h => h, trivial⟩
        · intro e hx
          subst e
          rw [updS_ne _ (by decide)]
          refine ifN (fun hj hx => ?_) hx
          obtain ⟨p, c, B, rfl, hB, ho⟩ := hx
          exact ⟨p, c, B, rfl, hB, kept_h ho hgrow (fun b hb e2 => hne (by decide) _ b r0 ((kA_of (cons_only (i := 14) (by decide) hσ)).trans hb) ((kA_of (cons_only (i := 3) (by decide) hj)).trans e2))⟩
        · intro e hx
          subst e
          rw [if_pos (updS_self _ _)]
          trivial
        · exact fun e _ => absurd e.symm ht
      · show (fun (z_ : Value) (w' : World) => ∃ p_ c_ B_, z_ = .slice p_ (0 + T.length + S.length) c_ ∧ W6.heap.size ≤ B_ ∧ w'.ownsRow B_ 59 5 (.slice p_ (0 + T.length + S.length) c_) (0 + T.length + S.length) ([] ++ cr encI T ++ cr encI S)) (.slice p' (0 + T.length + S.length) c') w'
        exact ⟨p', c', _, rfl, Nat.le_refl _, hown'⟩
  rintro w10 hB10 v37 - _ rfl _ rfl v40 - _ rfl _ rfl _ rfl _ rfl _ rfl _ rfl _ rfl _ rfl _ rfl _ rfl _ ⟨p51, c51, B51, rfl, hB51, ho51⟩ _ rfl
  simp only [Act.put, List.setIfInBounds_toArray, List.set_cons_succ, List.set_cons_zero, List.filterMap_nil, finP]
  intro hdis hcp
  simp only [Nat.zero_add, List.nil_append] at ho51 ⊢
  have hd10 := HD.out.grow hB10
  have y1 := heapN_cellj hd10 (k := 1) rfl
  have z1 : w10.frozen? ⟨w9.heap.size, 1, none⟩ = false := by simp [World.frozen?, show w10.heap[w9.heap.size]? = some (.cells #[.int .i64 N2, .slice (some pd) T2.length cd, .slice pr2 O2.length cr2] 25 (0, 0)) from hd10]
  refine endQ_some rfl ⟨_, by simp [go_sem, y1, z1]; rfl, ?_⟩
  have hne : (Value.slice p51 (T.length + S.length) c51).ownBlock ≠ some w9.heap.size := fun e => by
    have := (ho51.lt _ e).1
    omega
  have HB11 := Lib.hid (show Below w9.heap.size W6 (w10.setCell ⟨w9.heap.size, 1, none⟩ (.slice p51 (T.length + S.length) c51)) from (show Below w9.heap.size W6 w10 from hB10.mono (by omega)).setCell (p := ⟨w9.heap.size, 1, none⟩) (Nat.le_refl _) _)
  have HOW := Lib.hid (ho51.kept (grownBy_setN _ ⟨w9.heap.size, 1, none⟩ (.slice p51 (T.length + S.length) c51)) (.inr hne))
  have HD2 := Lib.hid (show Blk (w10.setCell ⟨w9.heap.size, 1, none⟩ (.slice p51 (T.length + S.length) c51)) w9.heap.size (.cells #[.int .i64 N2, .slice p51 (T.length + S.length) c51, .slice pr2 O2.length cr2] 25) from cellsT_setN (o := 1) (u := .slice p51 (T.length + S.length) c51) hd10)
  clear hdis hcp hd10 y1 z1 hne ho51 hB10 k1 d1 hnS hcS hnT hcT hi0 hz0 hz1 hz2 HD HIX2 HCD HSV hmin hk hk2 HC HUT HS
  generalize hWc : World.setCell w10 _ _ = w11 at *
  clear hWc
  have HB := Lib.hid (show Below w9.heap.size w9 w11 from HS9.out.trans HB11.out)
  clear HB11 HS9
  have hne : (Value.slice p51 (T.length + S.length) c51).ownBlock ≠ some w9.heap.size := fun e => by
    have := (HOW.out.lt _ e).1
    omega
  have hd11 := HD2.out
  have c2 := heapN_cellj (HC9.out.grow HB.out) (k := 2) rfl
  have y2 := heapN_cellj hd11 (k := 2) rfl
  have z2 : w11.frozen? ⟨w9.heap.size, 2, none⟩ = false := by simp [World.frozen?, show w11.heap[w9.heap.size]? = some (.cells #[.int .i64 N2, .slice p51 (T.length + S.length) c51, .slice pr2 O2.length cr2] 25 (0, 0)) from hd11]
  have HB12 := Lib.hid (show Below w9.heap.size w9 (w11.setCell ⟨w9.heap.size, 2, none⟩ (.slice pr N cr')) from HB.out.setCell (p := ⟨w9.heap.size, 2, none⟩) (Nat.le_refl _) _)
  have how2 := HOW.out.kept (grownBy_setN _ ⟨w9.heap.size, 2, none⟩ (.slice pr N cr')) (.inr hne)
  have hix3 : Ix (w11.setCell ⟨w9.heap.size, 2, none⟩ (.slice pr N cr')) (.slice p51 (T.length + S.length) c51) (T ++ S) := by
    have e : cr encI (T ++ S) = cr encI T ++ cr encI S := by simp [cr]
    rw [← e, ← List.length_append] at how2
    have := Rx.own encI_len how2 (by unfold maxLen; rw [List.length_append]; omega)
    rw [List.length_append] at this
    exact this
  have HIX3 := Lib.hid hix3
  have HD3 := Lib.hid (show Blk (w11.setCell ⟨w9.heap.size, 2, none⟩ (.slice pr N cr')) w9.heap.size (.cells #[.int .i64 N2, .slice p51 (T.length + S.length) c51, .slice pr N cr'] 25) from cellsT_setN (o := 2) (u := .slice pr N cr') hd11)
  have e0 := heapN_cellj HD3.out (k := 0) rfl
  have e1 := heapN_cellj HD3.out (k := 1) rfl
  have e2 := heapN_cellj HD3.out (k := 2) rfl
  obtain ⟨b, hb⟩ : ∃ b, tvB N2 (T ++ S) O = b := ⟨_, rfl⟩
  have HBV := Lib.hid hb
  clear hne hd11 how2 hix3 hb HB HOW HD2
  go_wp2_with (fail)
  refine (rvalid_b N2 _ _ (T ++ S) O b _ HIX3.out (HRO9.out.grow HB12.out) HBV.out).mono ?_
  rintro e w13 ⟨rfl, hB⟩
  have hB13 := HB12.out.trans (hB.mono HB12.out.size)
  have HW := Lib.hid (below_then HW9.out hB13)
  have HC := Lib.hid (HC9.out.grow hB13)
  have HUT := Lib.hid (HUT9.out.grow hB13)
  have HRO := Lib.hid (HRO9.out.grow hB13)
  have HI := Lib.hid (HI9.out.grow hB13)
  have HVX := Lib.hid (HVX9.out.grow hB13)
  have HIX := Lib.hid (HIX3.out.grow hB)
  have HD := Lib.hid (HD3.out.grow hB)
  clear e0 e1 e2 c2 y2 z2 hB13 hB HB12 HIX3 HD3 HC9 HUT9 HRO9 HI9 HVX9 HW9
  have e0 := heapN_cellj HD.out (k := 0) rfl
  have k0 := heapN_cellj HC.out (k := 0) rfl
  cases b with
  | false =>
    go_wp2_with (fail)
    go_ret
    exact ⟨rfl, HW.out⟩
  | true =>
  by_cases hNN : N2 = N
  case neg =>
    have i2 : ((N2 : Int) != (N : Int)) = true := by simp; omega
    clear hNN
    go_wp2_with (fail)
    go_ret
    exact ⟨rfl, HW.out⟩
  subst hNN
  have i2 : ((N2 : Int) != (N2 : Int)) = false := by simp
  obtain ⟨hn1, hn6, h400, hon, hvl, hout⟩ := tv_cases HBV.out
  have hvl : VL N2 (T ++ S) := hvl
  have hP1 : outV (evL l (s1, s2) (T ++ S)) O = outV (evL l (s1, s2) T) O := outV_dead HOUT.out
  have hR1 : O.map (rowD (T ++ S)) = O.map (rowD T) := List.map_congr_left fun y hy => row_dead hvl (HOUT.out y hy)
  have hO1 := opt_dead hvl HOUT.out
  obtain ⟨P, hP⟩ : ∃ P, outV (evL l (s1, s2) T) O = P := ⟨_, rfl⟩
  obtain ⟨rows, hR⟩ : ∃ R, O.map (rowD T) = R := ⟨_, rfl⟩
  obtain ⟨⟨C, oc⟩, hC⟩ : ∃ R, optL T O = R := ⟨_, rfl⟩
  have hPl : P.length = N2 := by rw [← hP]; unfold outV; rw [List.length_map, HM.out]
  rw [hP] at hP1
  rw [hR] at hR1
  rw [hC] at hO1
  have HPL := Lib.hid hPl
  have KE1 := Lib.hid (fun w vl vo vx a b c => eval_at N2 vl vo vx s1 s2 (T ++ S) O l P w a b c (by rw [HLEN.out]) HBV.out HVI.out HVS.out hP1)
  have KE2 := Lib.hid (fun w vl vo vx a b c => eval_at N2 vl vo vx s1 s2 T O l P w a b c (by rw [HLEN.out]) HTV.out HVI.out HVS.out hP)
  have KD1 := Lib.hid (fun w vl vo a b => dec_at N2 vl vo (T ++ S) O rows w a b HBV.out hR1)
  have KD2 := Lib.hid (fun w vl vo a b => dec_at N2 vl vo T O rows w a b HTV.out hR)
  have KO1 := Lib.hid (fun w vl vo a b => opt_cut8 N2 vl vo (T ++ S) C O oc w a b HBV.out hO1)
  have KO2 := Lib.hid (fun w vl vo a b => opt_cut8 N2 vl vo T C O oc w a b HTV.out hC)
  clear hn1 hn6 h400 hon hvl hout hP1 hR1 hO1 hP hR hC hPl HOUT
  go_wp2_with (fail)
  have d0 := fun g : Grown w13 => heapN_cellj (HD.out.grow g.h) (k := 0) rfl
  have d1 := fun g : Grown w13 => heapN_cellj (HD.out.grow g.h) (k := 1) rfl
  have d2 := fun g : Grown w13 => heapN_cellj (HD.out.grow g.h) (k := 2) rfl
  have k0 := fun g : Grown w13 => heapN_cellj (HC.out.grow g.h) (k := 0) rfl
  have k1 := fun g : Grown w13 => heapN_cellj (HC.out.grow g.h) (k := 1) rfl
  have k2 := fun g : Grown w13 => heapN_cellj (HC.out.grow g.h) (k := 2) rfl
  have x0 := fun g : Grown w13 => heapN_cellj (HI.out.grow g.h) (k := 0) rfl
  have x1 := fun g : Grown w13 => heapN_cellj (HI.out.grow g.h) (k := 1) rfl
  refine region_pred (lk [(67, fun z_ _ => z_ = .agg #[.int .i64 N2, .slice p51 (T.length + S.length) c51, .slice pr N2 cr']), (68, fun z_ _ => z_ = .slice p19 N2 c19), (69, fun z_ _ => z_ = .agg #[.int .i64 s1, .int .i64 s2]), (70, fun z_ w' => Vx w' z_ P), (71, fun z_ _ => z_ = .agg #[.int .i64 N2, .slice pu T.length cu, .slice pr N2 cr']), (72, fun z_ _ => z_ = .slice p19 N2 c19), (73, fun z_ _ => z_ = .agg #[.int .i64 s1, .int .i64 s2]), (74, fun z_ w' => Vx w' z_ P), (75, fun z_ _ => z_ = .bool true), (76, fun z_ _ => z_ = .bool true), (77, fun z_ _ => z_ = .agg #[.int .i64 N2, .slice p51 (T.length + S.length) c51, .slice pr N2 cr']), (78, fun z_ w' => Lx NxO w' z_ rows), (79, fun z_ _ => z_ = .agg #[.int .i64 N2, .slice pu T.length cu, .slice pr N2 cr']), (80, fun z_ w' => Lx NxO w' z_ rows), (81, fun z_ _ => z_ = .bool true), (82, fun z_ _ => z_ = .bool true), (83, fun z_ _ => z_ = .bool true), (84, fun z_ _ => z_ = .agg #[.int .i64 N2, .slice p51 (T.length + S.length) c51, .slice pr N2 cr']), (85, fun z_ w' => ∃ p_ q_ c_ d_, z_ = .agg #[.int .i64 N2, .slice p_ C.length c_, .slice q_ oc.length d_] ∧ Ix w' (.slice p_ C.length c_) C ∧ Px w' (.slice q_ oc.length d_) oc), (86, fun z_ _ => z_ = .agg #[.int .i64 N2, .slice pu T.length cu, .slice pr N2 cr']), (87, fun z_ w' => ∃ p_ q_ c_ d_, z_ = .agg #[.int .i64 N2, .slice p_ C.length c_, .slice q_ oc.length d_] ∧ Ix w' (.slice p_ C.length c_) C ∧ Px w' (.slice q_ oc.length d_) oc), (88, fun z_ _ => z_ = .bool true), (89, fun z_ _ => z_ = .bool true), (90, fun z_ _ => z_ = .bool true), (91, fun z_ _ => z_ = .bool true), (92, fun z_ _ => z_ = .bool true), (4, fun z_ _ => z_ = .bool true)]) (by kernel_rfl) (by kernel_rfl) (lk_steady _ ⟨steady_eq _, steady_eq _, steady_eq _, fun u w1 w2 hb h => h.grow hb, steady_eq _, steady_eq _, steady_eq _, fun u w1 w2 hb h => h.grow hb, steady_eq _, steady_eq _, steady_eq _, fun u w1 w2 hb h => h.grow grows_nxo hb, steady_eq _, fun u w1 w2 hb h => h.grow grows_nxo hb, steady_eq _, steady_eq _, steady_eq _, steady_eq _, fun u w1 w2 hb ⟨p, q, c, d, e, h1, h2⟩ => ⟨p, q, c, d, e, h1.grow hb, h2.grow hb⟩, steady_eq _, fun u w1 w2 hb ⟨p, q, c, d, e, h1, h2⟩ => ⟨p, q, c, d, e, h1.grow hb, h2.grow hb⟩, steady_eq _, steady_eq _, steady_eq _, steady_eq _, steady_eq _, steady_eq _, trivial⟩) ?_ ?_
  · refine ⟨?_, ?_, ?_, ?_, ?_, ?_, ?_, ?_, ?_, ?_, ?_, ?_, ?_, ?_, ?_, ?_, ?_, ?_, ?_, ?_, ?_, ?_, ?_, ?_, ?_, ?_, ?_, trivial⟩
    · refine ob_plain [10] rfl rfl fun aa g h => ?_
      have yy0 := seen_out (v := .pointer (some ⟨w9.heap.size, 0, none⟩)) rfl rfl h.1
      have ee0 := getD_of yy0
      exact tupon_value (v := .agg #[.int .i64 N2, .slice p51 (T.length + S.length) c51, .slice pr N2 cr']) (by simp [go_sem, ee0, yy0, d0 g, d1 g, d2 g]) (Below.refl _ _) rfl
    · refine ob_plain [7] rfl rfl fun aa g h => ?_
      have yy0 := seen_out (v := .slice p19 N2 c19) rfl rfl h.1
      have ee0 := getD_of yy0
      exact tupon_value (v := .slice p19 N2 c19) (by simp [go_sem, ee0, yy0]) (Below.refl _ _) rfl
    · refine ob_plain [8] rfl rfl fun aa g h => ?_
      have yy0 := seen_out (v := .pointer (some ⟨X8, 0, none⟩)) rfl rfl h.1
      have ee0 := getD_of yy0
      exact tupon_value (v := .agg #[.int .i64 s1, .int .i64 s2]) (by simp [go_sem, ee0, yy0, x0 g, x1 g]) (Below.refl _ _) rfl
    · refine ob_plain [67, 68, 69] rfl rfl fun aa g h => ?_
      obtain ⟨_, yy0, rfl⟩ := seen_in rfl h.1
      have ee0 := getD_of yy0
      obtain ⟨_, yy1, rfl⟩ := seen_in rfl h.2.1
      have ee1 := getD_of yy1
      obtain ⟨_, yy2, rfl⟩ := seen_in rfl h.2.2.1
      have ee2 := getD_of yy2
      refine tupon_enter (f := 16) (args := #[.agg #[.int .i64 N2, .slice p51 (T.length + S.length) c51, .slice pr N2 cr'], .slice p19 N2 c19, .agg #[.int .i64 s1, .int .i64 s2]]) (by simp [go_sem, ee0, yy0, ee1, yy1, ee2, yy2]) rfl ?_
      exact (KE1.out g.w _ _ _ (HIX.out.grow g.h) (HRO.out.grow g.h) (HVX.out.grow g.h)).mono fun e w' ⟨u9, he, hv, hB⟩ => ⟨_, he, hB, hv⟩
    · refine ob_plain [6] rfl rfl fun aa g h => ?_
      have yy0 := seen_out (v := .pointer (some ⟨w2.heap.size, 0, none⟩)) rfl rfl h.1
      have ee0 := getD_of yy0
      exact tupon_value (v := .agg #[.int .i64 N2, .slice pu T.length cu, .slice pr N2 cr']) (by simp [go_sem, ee0, yy0, k0 g, k1 g, k2 g]) (Below.refl _ _) rfl
    · refine ob_plain [7] rfl rfl fun aa g h => ?_
      have yy0 := seen_out (v := .slice p19 N2 c19) rfl rfl h.1
      have ee0 := getD_of yy0
      exact tupon_value (v := .slice p19 N2 c19) (by simp [go_sem, ee0, yy0]) (Below.refl _ _) rfl
    · refine ob_plain [8] rfl rfl fun aa g h => ?_
      have yy0 := seen_out (v := .pointer (some ⟨X8, 0, none⟩)) rfl rfl h.1
      have ee0 := getD_of yy0
      exact tupon_value (v := .agg #[.int .i64 s1, .int .i64 s2]) (by simp [go_sem, ee0, yy0, x0 g, x1 g]) (Below.refl _ _) rfl
    · refine ob_plain [71, 72, 73] rfl rfl fun aa g h => ?_
      obtain ⟨_, yy0, rfl⟩ := seen_in rfl h.1
      have ee0 := getD_of yy0
      obtain ⟨_, yy1, rfl⟩ := seen_in rfl h.2.1
      have ee1 := getD_of yy1
      obtain ⟨_, yy2, rfl⟩ := seen_in rfl h.2.2.1
      have ee2 := getD_of yy2
      refine tupon_enter (f := 16) (args := #[.agg #[.int .i64 N2, .slice pu T.length cu, .slice pr N2 cr'], .slice p19 N2 c19, .agg #[.int .i64 s1, .int .i64 s2]]) (by simp [go_sem, ee0, yy0, ee1, yy1, ee2, yy2]) rfl ?_
      exact (KE2.out g.w _ _ _ (HUT.out.grow g.h) (HRO.out.grow g.h) (HVX.out.grow g.h)).mono fun e w' ⟨u9, he, hv, hB⟩ => ⟨_, he, hB, hv⟩
    · refine ob_plain [70, 74] rfl rfl fun aa g h => ?_
      obtain ⟨z70, yy0, hv70⟩ := seen_in rfl h.1
      have ee0 := getD_of yy0
      obtain ⟨z74, yy1, hv74⟩ := seen_in rfl h.2.1
      have ee1 := getD_of yy1
      refine tupon_enter (f := 15) (args := #[z70, z74]) (by simp [go_sem, ee0, yy0, ee1, yy1]) rfl ?_
      exact (sbox_self _ _ P N2 g.w hv70 hv74 HPL.out).mono fun e w' ⟨he, hB⟩ => ⟨_, he, hB, rfl⟩
    · refine ob_plain [75] rfl rfl fun aa g h => ?_
      obtain ⟨_, yy0, rfl⟩ := seen_in rfl h.1
      have ee0 := getD_of yy0
      exact tupon_value (v := .bool true) (by simp [go_sem, ee0, yy0]) (Below.refl _ _) rfl
    · refine ob_gtrue [10] _ true 76 rfl rfl rfl rfl (fun v w h => h) fun aa g h => ?_
      have yy0 := seen_out (v := .pointer (some ⟨w9.heap.size, 0, none⟩)) rfl rfl h.1
      have ee0 := getD_of yy0
      exact tupon_value (v := .agg #[.int .i64 N2, .slice p51 (T.length + S.length) c51, .slice pr N2 cr']) (by simp [go_sem, ee0, yy0, d0 g, d1 g, d2 g]) (Below.refl _ _) rfl
    · refine ob_gtrue [77] _ true 76 rfl rfl rfl rfl (fun v w h => h) fun aa g h => ?_
      obtain ⟨_, yy0, rfl⟩ := seen_in rfl h.1
      have ee0 := getD_of yy0
      refine tupon_enter (f := 24) (args := #[.agg #[.int .i64 N2, .slice p51 (T.length + S.length) c51, .slice pr N2 cr']]) (by simp [go_sem, ee0, yy0]) rfl ?_
      exact (KD1.out g.w _ _ (HIX.out.grow g.h) (HRO.out.grow g.h)).mono fun e w' ⟨u9, he, hv, hB⟩ => ⟨_, he, hB, hv⟩
    · refine ob_gtrue [6] _ true 76 rfl rfl rfl rfl (fun v w h => h) fun aa g h => ?_
      have yy0 := seen_out (v := .pointer (some ⟨w2.heap.size, 0, none⟩)) rfl rfl h.1
      have ee0 := getD_of yy0
      exact tupon_value (v := .agg #[.int .i64 N2, .slice pu T.length cu, .slice pr N2 cr']) (by simp [go_sem, ee0, yy0, k0 g, k1 g, k2 g]) (Below.refl _ _) rfl
    · refine ob_gtrue [79] _ true 76 rfl rfl rfl rfl (fun v w h => h) fun aa g h => ?_
      obtain ⟨_, yy0, rfl⟩ := seen_in rfl h.1
      have ee0 := getD_of yy0
      refine tupon_enter (f := 24) (args := #[.agg #[.int .i64 N2, .slice pu T.length cu, .slice pr N2 cr']]) (by simp [go_sem, ee0, yy0]) rfl ?_
      exact (KD2.out g.w _ _ (HUT.out.grow g.h) (HRO.out.grow g.h)).mono fun e w' ⟨u9, he, hv, hB⟩ => ⟨_, he, hB, hv⟩
    · refine ob_gtrue [78, 80] _ true 76 rfl rfl rfl rfl (fun v w h => h) fun aa g h => ?_
      obtain ⟨z78, yy0, hv78⟩ := seen_in rfl h.1
      have ee0 := getD_of yy0
      obtain ⟨z80, yy1, hv80⟩ := seen_in rfl h.2.1
      have ee1 := getD_of yy1
      refine tupon_enter (f := 25) (args := #[z78, z80]) (by simp [go_sem, ee0, yy0, ee1, yy1]) rfl ?_
      exact (samerows_ok _ _ rows g.w hv78 hv80).mono fun e w' ⟨he, hB⟩ => ⟨_, he, hB, rfl⟩
    · refine ob_plain [76, 81] rfl rfl fun aa g h => ?_
      obtain ⟨_, yy0, rfl⟩ := seen_in rfl h.1
      have ee0 := getD_of yy0
      obtain ⟨_, yy1, rfl⟩ := seen_in rfl h.2.1
      have ee1 := getD_of yy1
      exact tupon_value (v := .bool true) (by simp [go_sem, ee0, yy0, ee1, yy1]) (Below.refl _ _) rfl
    · refine ob_plain [82] rfl rfl fun aa g h => ?_
      obtain ⟨_, yy0, rfl⟩ := seen_in rfl h.1
      have ee0 := getD_of yy0
      exact tupon_value (v := .bool true) (by simp [go_sem, ee0, yy0]) (Below.refl _ _) rfl
    · refine ob_gtrue [10] _ true 83 rfl rfl rfl rfl (fun v w h => h) fun aa g h => ?_
      have yy0 := seen_out (v := .pointer (some ⟨w9.heap.size, 0, none⟩)) rfl rfl h.1
      have ee0 := getD_of yy0
      exact tupon_value (v := .agg #[.int .i64 N2, .slice p51 (T.length + S.length) c51, .slice pr N2 cr']) (by simp [go_sem, ee0, yy0, d0 g, d1 g, d2 g]) (Below.refl _ _) rfl
    · refine ob_gtrue [84] _ true 83 rfl rfl rfl rfl (fun v w h => h) fun aa g h => ?_
      obtain ⟨_, yy0, rfl⟩ := seen_in rfl h.1
      have ee0 := getD_of yy0
      refine tupon_enter (f := 19) (args := #[.agg #[.int .i64 N2, .slice p51 (T.length + S.length) c51, .slice pr N2 cr']]) (by simp [go_sem, ee0, yy0]) rfl ?_
      exact (KO1.out g.w _ _ (HIX.out.grow g.h) (HRO.out.grow g.h)).mono fun e w' ⟨p, q, c, d, he, hi, hp, hB⟩ => ⟨_, he, hB, ⟨p, q, c, d, rfl, hi, hp⟩⟩
    · refine ob_gtrue [6] _ true 83 rfl rfl rfl rfl (fun v w h => h) fun aa g h => ?_
      have yy0 := seen_out (v := .pointer (some ⟨w2.heap.size, 0, none⟩)) rfl rfl h.1
      have ee0 := getD_of yy0
      exact tupon_value (v := .agg #[.int .i64 N2, .slice pu T.length cu, .slice pr N2 cr']) (by simp [go_sem, ee0, yy0, k0 g, k1 g, k2 g]) (Below.refl _ _) rfl
    · refine ob_gtrue [86] _ true 83 rfl rfl rfl rfl (fun v w h => h) fun aa g h => ?_
      obtain ⟨_, yy0, rfl⟩ := seen_in rfl h.1
      have ee0 := getD_of yy0
      refine tupon_enter (f := 19) (args := #[.agg #[.int .i64 N2, .slice pu T.length cu, .slice pr N2 cr']]) (by simp [go_sem, ee0, yy0]) rfl ?_
      exact (KO2.out g.w _ _ (HUT.out.grow g.h) (HRO.out.grow g.h)).mono fun e w' ⟨p, q, c, d, he, hi, hp, hB⟩ => ⟨_, he, hB, ⟨p, q, c, d, rfl, hi, hp⟩⟩
    · refine ob_gtrue [85, 87] _ true 83 rfl rfl rfl rfl (fun v w h => h) fun aa g h => ?_
      obtain ⟨_, yy0, ⟨p85, q85, c85, d85, rfl, hi85, hp85⟩⟩ := seen_in rfl h.1
      have ee0 := getD_of yy0
      obtain ⟨_, yy1, ⟨p87, q87, c87, d87, rfl, hi87, hp87⟩⟩ := seen_in rfl h.2.1
      have ee1 := getD_of yy1
      refine tupon_enter (f := 26) (args := #[.agg #[.int .i64 N2, .slice p85 C.length c85, .slice q85 oc.length d85], .agg #[.int .i64 N2, .slice p87 C.length c87, .slice q87 oc.length d87]]) (by simp [go_sem, ee0, yy0, ee1, yy1]) rfl ?_
      exact (tsame_ok N2 _ _ _ _ C oc g.w hi85 hp85 hi87 hp87).mono fun e w' ⟨he, hB⟩ => ⟨_, he, hB, rfl⟩
    · refine ob_plain [83, 88] rfl rfl fun aa g h => ?_
      obtain ⟨_, yy0, rfl⟩ := seen_in rfl h.1
      have ee0 := getD_of yy0
      obtain ⟨_, yy1, rfl⟩ := seen_in rfl h.2.1
      have ee1 := getD_of yy1
      exact tupon_value (v := .bool true) (by simp [go_sem, ee0, yy0, ee1, yy1]) (Below.refl _ _) rfl
    · refine ob_plain [89] rfl rfl fun aa g h => ?_
      obtain ⟨_, yy0, rfl⟩ := seen_in rfl h.1
      have ee0 := getD_of yy0
      exact tupon_value (v := .bool true) (by simp [go_sem, ee0, yy0]) (Below.refl _ _) rfl
    · refine ob_gtrue [5] _ true 90 rfl rfl rfl rfl (fun v w h => h) fun aa g h => ?_
      have yy0 := seen_out (v := .bool true) rfl rfl h.1
      have ee0 := getD_of yy0
      exact tupon_value (v := .bool true) (by simp [go_sem, ee0, yy0]) (Below.refl _ _) rfl
    · refine ob_plain [90, 91] rfl rfl fun aa g h => ?_
      obtain ⟨_, yy0, rfl⟩ := seen_in rfl h.1
      have ee0 := getD_of yy0
      obtain ⟨_, yy1, rfl⟩ := seen_in rfl h.2.1
      have ee1 := getD_of yy1
      exact tupon_value (v := .bool true) (by simp [go_sem, ee0, yy0, ee1, yy1]) (Below.refl _ _) rfl
    · refine ob_plain [92] rfl rfl fun aa g h => ?_
      obtain ⟨_, yy0, rfl⟩ := seen_in rfl h.1
      have ee0 := getD_of yy0
      exact tupon_value (v := .bool true) (by simp [go_sem, ee0, yy0]) (Below.refl _ _) rfl
  rintro w14 hB14 _ rfl _ rfl _ rfl z70 hv70 _ rfl _ rfl _ rfl z74 hv74 _ rfl _ rfl _ rfl z78 hv78 _ rfl z80 hv80 _ rfl _ rfl _ rfl _ rfl _ ⟨p85, q85, c85, d85, rfl, hi85, hp85⟩ _ rfl _ ⟨p87, q87, c87, d87, rfl, hi87, hp87⟩ _ rfl _ rfl _ rfl _ rfl _ rfl _ rfl
  simp only [Act.put, List.setIfInBounds_toArray, List.set_cons_succ, List.set_cons_zero, List.filterMap_nil, finP]
  have HW := Lib.hid (below_then HW.out hB14)
  clear hB14 d0 d1 d2 x0 x1 KE1 KE2 KD1 KD2 KO1 KO2 HIX HUT HRO HVX HI
  go_wp2_with (fail)
  go_ret
  exact ⟨rfl, HW.out⟩
end Go.Proofs.Ytajddejeglhbhaa
