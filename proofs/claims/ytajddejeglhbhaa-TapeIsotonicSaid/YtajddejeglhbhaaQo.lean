/-
  The law of larger boxes.
-/
import Derived.Test.YtajddejeglhbhaaUC
import Derived.Test.YtajddejeglhbhaaUB
import Derived.Test.YtajddejeglhbhaaOc
import Derived.Test.YtajddejeglhbhaaR1
import Derived.Test.YtajddejeglhbhaaPredG
import Derived.Maps.AppendAt
namespace Go.Proofs.Ytajddejeglhbhaa
open Go.ChangeShapes Go.WideShapes Go.ChangeAt Go.RowKit Go.Maps
set_option linter.unusedVariables false
set_option linter.unusedSimpArgs false
set_option maxRecDepth 100000
attribute [local irreducible] Calls
theorem wpList_append_at {P : Program} (w : World) {ops : Array Oper} {rest : List Oper} {o : Oper} {a : Act} {Q : Exit → Act → World → Prop} (hgd : o.guard = none) (s x : Operand) (t : TypeId)
    (ho : o.op = .call { callee := .builtin .append, args := #[s, x], argTypes := #[t, t] })
    (base : Nat) (e : TypeId) (i : TypeInfo) (z : Value) (size bytes : Nat) (ht : P.underlying t = some (.slice e)) (hi : P.info? e = some i) (hz : i.zero = some z)
    (hsize : i.size = size) (hby : i.bytes = bytes) (hzs : z.cells.size = size) (hsz : 0 < size)
    (v : Value) (n : Nat) (xs : List Value) (hs : a.eval s = v) (hown : w.ownsRow base e size v n xs)
    (ad : Addr) (m c : Nat) (news : List Value) (hx : a.eval x = .slice (some ad) m c) (hl : news.length = m * size) (hnews : ∀ j u, news[j]? = some u → w.cell? (ad.add j) = some u) (h1 : ∀ u ∈ news, u.oneCell' = true)
    (h63 : n + m ≤ maxLen) (hbytes : (n + m) * bytes ≤ 140737488355328) (hbase : base ≤ w.heap.size)
    (h : ∀ v' w', w'.ownsRow base e size v' (n + m) (xs ++ news) → w.grownBy w' v.ownBlock → (v'.ownBlock = v.ownBlock ∨ v'.ownBlock = some w.heap.size) → wpList P ops Q rest (a.put o.dst v') w') : wpList P ops Q (o :: rest) a w :=
  wpList_plain hgd fun K hK => by
    obtain ⟨v', w', hr, h2, h3, _, h4⟩ := run_append_own_at (P := P) w base t o.type e i z size bytes ht hi hz hsize hby hzs hsz v n xs hown ad m c news hl hnews h1 h63 hbytes hbase
    unfold Oper.wp execOp
    simp only [ho, resolve, invoke, builtin, Sem.run_bind, Sem.run_pure, Result.andThen_ok, List.map_toArray, List.map_cons, List.map_nil, hs, hx, hr]
    exact hK _ _ (h v' w' h2 h3 h4)
theorem small_at (a b : Int) (ha : W64 a) (hb : W64 b) : ∃ s1 s2, VI s1 s2 ∧ (-16777216 ≤ s1 ∧ s1 ≤ 16777216 ∧ -16777216 ≤ s2 ∧ s2 ≤ 16777216 ∧ s1 ≤ s2) ∧ ∀ w, Calls Try.prog 20 #[.agg #[.int .i64 a, .int .i64 b]] w fun e w' => e = .returned (.agg #[.int .i64 s1, .int .i64 s2]) ∧ Below w.heap.size w w' := by
  have h1 := Int.lt_tmod_of_pos a (show (0 : Int) < 16777216 by decide)
  have h2 := Int.tmod_lt_of_pos a (show (0 : Int) < 16777216 by decide)
  have h3 := Int.lt_tmod_of_pos b (show (0 : Int) < 16777216 by decide)
  have h4 := Int.tmod_lt_of_pos b (show (0 : Int) < 16777216 by decide)
  unfold W64 at ha hb
  exact ⟨_, _, small_vi a b, by omega, fun w => r2small a b w ha.1 ha.2 hb.1 hb.2⟩
theorem new_at (a b : Int) (ha : Num a) (hb : Num b) (w : World) : Calls Try.prog 21 #[.int .i64 a, .int .i64 b] w fun e w' => e = .returned (.agg #[.int .i64 a, .int .i64 b]) ∧ Below w.heap.size w w' := by
  have h := r2new a b w
  rw [show mkLo a b = a from if_pos ⟨ha, hb⟩, show mkHi a b = b from if_pos ⟨ha, hb⟩] at h
  exact h
theorem boxI_bd (l : List (Int × Int)) (n : Nat) {d : Int} (hd : 1 ≤ d) : ∀ p ∈ boxI l n d, -1048576 < p.1 ∧ p.1 < 1048576 ∧ p.1 ≤ p.2 ∧ p.2 < p.1 + d := by
  intro p hp
  unfold boxI at hp
  rw [List.mem_map] at hp
  obtain ⟨i, _, rfl⟩ := hp
  exact near_bd _ hd
/-- The larger box. -/
def wid (l : List (Int × Int)) (bs : List Int) (k : Nat) : Int × Int := ((l.getD k (0, 0)).1 - bs.getD k 0, (l.getD k (0, 0)).2 + bs.getD (5 - k) 0)
def widL (l : List (Int × Int)) (bs : List Int) (k : Nat) : List (Int × Int) := (List.range k).map (wid l bs)
theorem widL_snoc (l : List (Int × Int)) (bs : List Int) (k : Nat) : widL l bs (k + 1) = widL l bs k ++ [wid l bs k] := by
  unfold widL
  rw [List.range_succ, List.map_append]
  rfl
theorem widL_len (l : List (Int × Int)) (bs : List Int) (k : Nat) : (widL l bs k).length = k := by simp [widL]
theorem bs_bd {bs : List Int} (h : ∀ x ∈ bs, IntKind.has .u16 x) (k : Nat) : 0 ≤ bs.getD k 0 ∧ bs.getD k 0 ≤ 65535 := by
  rw [List.getD_eq_getElem?_getD]
  cases e : bs[k]? with
  | none => exact ⟨Int.le_refl _, by decide⟩
  | some x =>
    have := h x (List.mem_of_getElem? e)
    exact this
theorem wid_sb {l : List (Int × Int)} {bs : List Int} {d : Int} (hd : d ≤ 1000000) (hl : ∀ p ∈ l, -1048576 < p.1 ∧ p.1 < 1048576 ∧ p.1 ≤ p.2 ∧ p.2 < p.1 + d) (hb : ∀ x ∈ bs, IntKind.has .u16 x) : SbL l (widL l bs l.length) := by
  refine ⟨(widL_len _ _ _).symm, fun i p q hp hq => ?_⟩
  have hi := (List.getElem?_eq_some_iff.1 hp).1
  unfold widL at hq
  rw [List.getElem?_map, List.getElem?_range hi] at hq
  cases hq
  have h1 := hl p (List.mem_of_getElem? hp)
  have h2 := bs_bd hb i
  have h3 := bs_bd hb (5 - i)
  have hg : l.getD i (0, 0) = p := by rw [List.getD_eq_getElem?_getD, hp]; rfl
  have e1 : (wid l bs i).1 = p.1 - bs.getD i 0 := by unfold wid; rw [hg]
  have e2 : (wid l bs i).2 = p.2 + bs.getD (5 - i) 0 := by unfold wid; rw [hg]
  unfold VI Num SbI Sb
  rw [e1, e2]
  omega
theorem out_at {l m : List (Int × Int)} {O : List Int} (h : SbL l m) (k : Nat) (a1 a2 c1 c2 : Int) (hp : (outV l O)[k]? = some (a1, a2)) (hq : (outV m O)[k]? = some (c1, c2)) : VI a1 a2 ∧ c1 ≤ a1 ∧ a2 ≤ c2 := by
  unfold outV at hp hq
  rw [List.getElem?_map] at hp hq
  cases e : O[k]? with
  | none => rw [e] at hp; cases hp
  | some y =>
    rw [e] at hp hq
    have hp' : l.getD y.toNat (0, 0) = (a1, a2) := Option.some.inj hp
    have hq' : m.getD y.toNat (0, 0) = (c1, c2) := Option.some.inj hq
    have := sbL_getD h y.toNat
    rw [hp', hq'] at this
    exact ⟨this.1, this.2.2.1, this.2.2.2⟩
/-- What the loop holds: the row that grows, the box, the time. -/
structure IsoI (W5 : World) (p : Option Addr) (c N X : Nat) (l m : List (Int × Int)) (s1 s2 : Int) (k : Nat) (v : Value) (W : World) : Prop where
  bel : Below W5.heap.size W5 W
  row : W.ownsRow W5.heap.size 28 2 v k (cr encB m)
  base : W.ownsRow W5.heap.size 28 2 (.slice p N c) N (cr encB l)
  bx : W.heap[X]? = some (.cells #[.int .i64 s1, .int .i64 s2] 28 (0, 0))
  n1 : v.ownBlock ≠ some X
  n2 : ∀ b, (Value.slice p N c).ownBlock = some b → v.ownBlock ≠ some b
theorem IsoI.grow {W5 W W' : World} {p : Option Addr} {c N X : Nat} {l m : List (Int × Int)} {s1 s2 : Int} {k : Nat} {v : Value} (h : IsoI W5 p c N X l m s1 s2 k v W) (hB : Below W.heap.size W W') : IsoI W5 p c N X l m s1 s2 k v W' :=
  ⟨h.bel.trans (hB.mono h.bel.size), own_keptN h.row hB, own_keptN h.base hB, (hB.block X (Array.getElem?_eq_some_iff.1 h.bx).1).trans h.bx, h.n1, h.n2⟩
theorem IsoI.push {W5 W W' : World} {p : Option Addr} {c N X : Nat} {l m : List (Int × Int)} {s1 s2 : Int} {k : Nat} {v : Value} (h : IsoI W5 p c N X l m s1 s2 k v W) {v' : Value} {x : Int × Int} (ho : W'.ownsRow W5.heap.size 28 2 v' (k + 1) (cr encB m ++ encB x)) (hg : W.grownBy W' v.ownBlock) (hat : v'.ownBlock = v.ownBlock ∨ v'.ownBlock = some W.heap.size) : IsoI W5 p c N X l (m ++ [x]) s1 s2 (k + 1) v' W' := by
  have hX := (Array.getElem?_eq_some_iff.1 h.bx).1
  refine ⟨Below.grown h.bel hg h.bel.size (fun i hi => (h.row.lt i hi).1), by rw [cr_snoc]; exact ho, h.base.kept hg ?_, (hg.block X hX (fun e => h.n1 e.symm)).trans h.bx, ?_, fun b hb => ?_⟩
  · cases e : (Value.slice p N c).ownBlock with
    | none => exact .inl rfl
    | some b => exact .inr (fun e2 => h.n2 b e e2.symm)
  · rcases hat with e | e
    · rw [e]; exact h.n1
    · rw [e]
      intro e2
      have := Option.some.inj e2
      omega
  · have hb2 := (h.base.lt b hb).2
    rcases hat with e | e
    · rw [e]; exact h.n2 b hb
    · rw [e]
      intro e2
      have := Option.some.inj e2
      omega
theorem cell_b {W : World} {X : Nat} (x : Int × Int) (h : W.heap[X]? = some (.cells #[.int .i64 x.1, .int .i64 x.2] 28 (0, 0))) : ∀ j u, (encB x)[j]? = some u → W.cell? ((⟨X, 0, none⟩ : Addr).add j) = some u := by
  intro j u hj
  have hk : j < 2 := by have := (List.getElem?_eq_some_iff.1 hj).1; simpa [encB] using this
  unfold encB at hj
  match j, hk, hj with
  | 0, _, hj => cases hj; simp [Addr.add, World.cell?, h]
  | 1, _, hj => cases hj; simp [Addr.add, World.cell?, h]
theorem by_at {W : World} {b0 b1 b2 b3 b4 b5 : Int} {b : Nat} {t : TypeId} (h : W.heap[b]? = some (.cells #[.int .u16 b0, .int .u16 b1, .int .u16 b2, .int .u16 b3, .int .u16 b4, .int .u16 b5] t (0, 0))) {k : Nat} (hk : k < 6) : W.cell? ⟨b, k, none⟩ = some (.int .u16 ([b0, b1, b2, b3, b4, b5].getD k 0)) := by
  refine heapN_cellj h ?_
  match k, hk with
  | 0, _ => rfl
  | 1, _ => rfl
  | 2, _ => rfl
  | 3, _ => rfl
  | 4, _ => rfl
  | 5, _ => rfl
theorem wrapI (n : Int) (h1 : -4611686018427387904 ≤ n) (h2 : n ≤ 4611686018427387904) : IntKind.i64.wrap n = n := wrapN n (by omega) (by omega)
set_option maxHeartbeats 64000000 in
theorem tiso (w : World) (vL vO vX : Value) (n0 lo hi : Int) (Lr : List Is) (outr : List Int) (Xr : List (Int × Int)) (hL : Ix w vL Lr ∧ ∀ x ∈ Lr, IW x) (hO : Px w vO outr ∧ ∀ x ∈ outr, W64 x) (hX : Vx w vX Xr ∧ ∀ q ∈ Xr, W64 q.1 ∧ W64 q.2) (hn : W64 n0) (hlo : W64 lo) (hhi : W64 hi) (b0 b1 b2 b3 b4 b5 : Int) (hby : ∀ x ∈ [b0, b1, b2, b3, b4, b5], IntKind.has .u16 x) (late : Int) (hla : (Lit.int .u16 late).wf = true) :
    Calls Try.prog 4 #[.agg #[.int .i64 n0, vL, vO, vX, .int .i64 lo, .int .i64 hi], .agg #[.int .u16 b0, .int .u16 b1, .int .u16 b2, .int .u16 b3, .int .u16 b4, .int .u16 b5], .int .u16 late] w fun e w' => e = .returned (.bool true) ∧ Below w.heap.size w w' := by
  obtain ⟨pl, cl, rfl⟩ := hL.1.cut
  obtain ⟨po, co, rfl⟩ := hO.1.cut
  obtain ⟨px, cx, rfl⟩ := hX.1.cut
  obtain ⟨hla1, hla2⟩ : 0 ≤ late ∧ late ≤ 65535 := by
    have h := hla
    simp only [Lit.wf] at h
    have h' : IntKind.min .u16 ≤ late ∧ late ≤ IntKind.max .u16 := by simpa using h
    exact h'
  obtain ⟨s1, s2, hvs, hsb, hks⟩ := small_at lo hi hlo hhi
  have HBY := Lib.hid hby
  have HVS := Lib.hid hvs
  have HSB := Lib.hid hsb
  have KS := Lib.hid hks
  clear hla hby hvs hsb hks
  have hE : Below w.heap.size w ((w.alloc (.cells #[.int .i64 n0, .slice pl Lr.length cl, .slice po outr.length co, .slice px Xr.length cx, .int .i64 lo, .int .i64 hi] 30)).alloc (.cells #[.int .u16 b0, .int .u16 b1, .int .u16 b2, .int .u16 b3, .int .u16 b4, .int .u16 b5] 47)) := allocs_below [.cells #[.int .i64 n0, .slice pl Lr.length cl, .slice po outr.length co, .slice px Xr.length cx, .int .i64 lo, .int .i64 hi] 30, .cells #[.int .u16 b0, .int .u16 b1, .int .u16 b2, .int .u16 b3, .int .u16 b4, .int .u16 b5] 47] w
  have HQ := Lib.hid (show Blk ((w.alloc (.cells #[.int .i64 n0, .slice pl Lr.length cl, .slice po outr.length co, .slice px Xr.length cx, .int .i64 lo, .int .i64 hi] 30)).alloc (.cells #[.int .u16 b0, .int .u16 b1, .int .u16 b2, .int .u16 b3, .int .u16 b4, .int .u16 b5] 47)) w.heap.size (.cells #[.int .i64 n0, .slice pl Lr.length cl, .slice po outr.length co, .slice px Xr.length cx, .int .i64 lo, .int .i64 hi] 30) from allocs_at [.cells #[.int .i64 n0, .slice pl Lr.length cl, .slice po outr.length co, .slice px Xr.length cx, .int .i64 lo, .int .i64 hi] 30, .cells #[.int .u16 b0, .int .u16 b1, .int .u16 b2, .int .u16 b3, .int .u16 b4, .int .u16 b5] 47] w 0 _ rfl)
  have HA := Lib.hid (show Blk ((w.alloc (.cells #[.int .i64 n0, .slice pl Lr.length cl, .slice po outr.length co, .slice px Xr.length cx, .int .i64 lo, .int .i64 hi] 30)).alloc (.cells #[.int .u16 b0, .int .u16 b1, .int .u16 b2, .int .u16 b3, .int .u16 b4, .int .u16 b5] 47)) (w.heap.size + 1) (.cells #[.int .u16 b0, .int .u16 b1, .int .u16 b2, .int .u16 b3, .int .u16 b4, .int .u16 b5] 47) from allocs_at [.cells #[.int .i64 n0, .slice pl Lr.length cl, .slice po outr.length co, .slice px Xr.length cx, .int .i64 lo, .int .i64 hi] 30, .cells #[.int .u16 b0, .int .u16 b1, .int .u16 b2, .int .u16 b3, .int .u16 b4, .int .u16 b5] 47] w 1 _ rfl)
  have HL := Lib.hid (hL.1.grow hE)
  have HO := Lib.hid (hO.1.grow hE)
  have HXV := Lib.hid (hX.1.grow hE)
  have HW := Lib.hid hE
  clear hE hL hO hX hn hlo hhi
  go_enter Try.func4, Try.ntmps4
  go_wp2_with (fail)
  refine (sanity8 _).mono ?_
  rintro e w1 ⟨rfl, hB⟩
  have HQ := Lib.hid (HQ.out.grow hB)
  have HA := Lib.hid (HA.out.grow hB)
  have HL := Lib.hid (HL.out.grow hB)
  have HO := Lib.hid (HO.out.grow hB)
  have HXV := Lib.hid (HXV.out.grow hB)
  have HW := Lib.hid (below_then HW.out hB)
  clear hB
  have q0 := heapN_cellj HQ.out (k := 0) rfl
  have q1 := heapN_cellj HQ.out (k := 1) rfl
  have q2 := heapN_cellj HQ.out (k := 2) rfl
  go_wp2_with (fail)
  refine (made8_ok n0 _ _ Lr outr 25 _ HL.out HO.out (by decide) (by decide)).mono ?_
  rintro e w2 ⟨N, T, O, u, r, rfl, hu, hr, htv, hN3, hT1, hT25, hB⟩
  have HTV := Lib.hid htv
  obtain ⟨hn1, hn6, h400, hon, hvl, hout⟩ := tv_cases htv
  obtain ⟨m, hm⟩ : ∃ m, O.length = m := ⟨_, rfl⟩
  have hNm : N = m := by omega
  subst hNm
  have HM := Lib.hid hm
  have HVL := Lib.hid hvl
  have hut := Rx.own encI_len hu (by unfold maxLen; omega)
  have hro := Rx.own (enc := enc1) (fun _ => rfl) hr (by unfold maxLen; omega)
  obtain ⟨pu, cu, rfl⟩ := hut.cut
  obtain ⟨pr, cr', hrr⟩ := hro.cut
  rw [hm] at hrr
  subst hrr
  have hS : Below w2.heap.size w2 (w2.alloc (.cells #[.int .i64 N, .slice pu T.length cu, .slice pr N cr'] 25)) := (Below.refl _ _).alloc (Nat.le_refl _) _
  have HC := Lib.hid (show Blk (w2.alloc (.cells #[.int .i64 N, .slice pu T.length cu, .slice pr N cr'] 25)) w2.heap.size (.cells #[.int .i64 N, .slice pu T.length cu, .slice pr N cr'] 25) from World.alloc_heap_new w2 _)
  have HUT := Lib.hid (hut.grow hS)
  have HRO := Lib.hid (hro.grow hS)
  have HQ := Lib.hid ((HQ.out.grow hB).grow hS)
  have HA := Lib.hid ((HA.out.grow hB).grow hS)
  have HXV := Lib.hid ((HXV.out.grow hB).grow hS)
  have HW := Lib.hid (below_then (below_then HW.out hB) hS)
  clear hB hu hr htv q0 q1 q2 HL HO hon hm hn1 hn6 h400 hvl hout hut hro hS
  go_wp2_with (fail)
  generalize hWc : World.alloc w2 _ = W5 at *
  clear hWc
  have q3 := fun g : Grown W5 => heapN_cellj (HQ.out.grow g.h) (k := 3) rfl
  have q4 := fun g : Grown W5 => heapN_cellj (HQ.out.grow g.h) (k := 4) rfl
  have q5 := fun g : Grown W5 => heapN_cellj (HQ.out.grow g.h) (k := 5) rfl
  have k0 := fun g : Grown W5 => heapN_cellj (HC.out.grow g.h) (k := 0) rfl
  refine region_pred_g (fun σ_ => lk [(20, fun z_ _ => z_ = .pointer (some ⟨w.heap.size, 3, none⟩)), (21, fun z_ _ => z_ = .slice px Xr.length cx), (22, fun z_ _ => z_ = .pointer (some ⟨w2.heap.size, 0, none⟩)), (23, fun z_ _ => z_ = .int .i64 N), (24, fun z_ w' => ∃ p_ c_ B_, z_ = .slice p_ N c_ ∧ W5.heap.size ≤ B_ ∧ w'.ownsRow B_ 28 2 (.slice p_ N c_) N (cr encB (boxI Xr N 70000))), (25, fun z_ _ => z_ = .pointer (some ⟨w.heap.size, 4, none⟩)), (26, fun z_ _ => z_ = .agg #[.int .i64 lo, .int .i64 hi]), (27, fun z_ _ => z_ = .agg #[.int .i64 s1, .int .i64 s2]), (28, fun z_ w' => ∃ p_ c_ B_, z_ = .slice p_ 0 c_ ∧ W5.heap.size ≤ B_ ∧ w'.ownsRow B_ 28 2 (.slice p_ 0 c_) 0 ([])), (10, fun z_ w' => ∃ X_, z_ = .pointer (some ⟨X_, 0, none⟩) ∧ W5.heap.size ≤ X_ ∧ w'.heap[X_]? = some (.cells (if σ_ 11 = true then #[(.int .i64 s1), (.int .i64 s2)] else #[(.int .i64 0), (.int .i64 0)]) 28 (0, 0))), (9, fun _ _ => True), (11, fun _ _ => True)]) (kk [(24, Value.ownBlock), (28, Value.ownBlock), (10, ptrK)]) [(11, 10)] [(9, 24), (11, 28)] (by kernel_rfl) (by kernel_rfl) ?_ (fun σ_ => lk_steady _ ⟨steady_eq _, steady_eq _, steady_eq _, steady_eq _, fun u w1 w2 hb ⟨p, c, B, e, h1, h2⟩ => ⟨p, c, B, e, h1, own_keptN h2 hb⟩, steady_eq _, steady_eq _, steady_eq _, fun u w1 w2 hb ⟨p, c, B, e, h1, h2⟩ => ⟨p, c, B, e, h1, own_keptN h2 hb⟩, fun u w1 w2 hb ⟨X, e, h1, h2⟩ => ⟨X, e, h1, (hb.block X (Array.getElem?_eq_some_iff.1 h2).1).trans h2⟩, fun _ _ _ _ _ => trivial, fun _ _ _ _ _ => trivial, trivial⟩) ?_ ?_ ?_ ?_
  · intro x hx
    simp only [List.mem_cons, List.not_mem_nil, or_false] at hx
    rcases hx with rfl | rfl
    · exact ⟨10, _, 4, _, rfl, rfl, rfl, rfl, rfl, by first | decide | decide +kernel, fun a w => by first | rfl | simp [go_sem]⟩
    · exact ⟨12, _, 8, _, rfl, rfl, rfl, rfl, rfl, by first | decide | decide +kernel, fun a w => by first | rfl | simp [go_sem]⟩
  · intro σ_ t v w b h hb
    refine kk_lt (fun x hx e hl hb => ?_) h hb
    simp only [List.mem_cons, List.not_mem_nil, or_false] at hx
    rcases hx with rfl | rfl | rfl
    · subst e
      obtain ⟨p, c, B, rfl, hB, ho⟩ := hl
      exact (ho.lt b hb).2
    · subst e
      obtain ⟨p, c, B, rfl, hB, ho⟩ := hl
      exact (ho.lt b hb).2
    · subst e
      obtain ⟨X, rfl, hX, hI⟩ := hl
      obtain rfl : X = b := Option.some.inj hb
      exact (Array.getElem?_eq_some_iff.1 hI).1
  · refine ⟨?_, ?_, ?_, ?_, ?_, ?_, ?_, ?_, ?_, ?_, ?_, ?_, ?_, trivial⟩
    · intro _ σ_ hσ
      refine oblg_of (ob_plain [3] rfl rfl fun aa g h => ?_) (fun d v hd => by cases hd; rfl)
      have yy0 := seen_out (v := .pointer (some ⟨w.heap.size, 0, none⟩)) rfl rfl h.1
      have ee0 := getD_of yy0
      exact tupon_value (v := .pointer (some ⟨w.heap.size, 3, none⟩)) (by simp [go_sem, ee0, yy0]) (Below.refl _ _) rfl
    · intro _ σ_ hσ
      refine oblg_of (ob_plain [20] rfl rfl fun aa g h => ?_) (fun d v hd => by cases hd; rfl)
      obtain ⟨_, yy0, rfl⟩ := seen_in rfl h.1
      have ee0 := getD_of yy0
      exact tupon_value (v := .slice px Xr.length cx) (by simp [go_sem, ee0, yy0, q3 g]) (Below.refl _ _) rfl
    · intro _ σ_ hσ
      refine oblg_of (ob_plain [8] rfl rfl fun aa g h => ?_) (fun d v hd => by cases hd; rfl)
      have yy0 := seen_out (v := .pointer (some ⟨w2.heap.size, 0, none⟩)) rfl rfl h.1
      have ee0 := getD_of yy0
      exact tupon_value (v := .pointer (some ⟨w2.heap.size, 0, none⟩)) (by simp [go_sem, ee0, yy0]) (Below.refl _ _) rfl
    · intro _ σ_ hσ
      refine oblg_of (ob_plain [22] rfl rfl fun aa g h => ?_) (fun d v hd => by cases hd; rfl)
      obtain ⟨_, yy0, rfl⟩ := seen_in rfl h.1
      have ee0 := getD_of yy0
      exact tupon_value (v := .int .i64 N) (by simp [go_sem, ee0, yy0, k0 g]) (Below.refl _ _) rfl
    · intro _ σ_ hσ
      refine oblg_plain [21, 23] rfl rfl fun aa g h => ?_
      obtain ⟨_, yy0, rfl⟩ := seen_in rfl h.1
      have ee0 := getD_of yy0
      obtain ⟨_, yy1, rfl⟩ := seen_in rfl h.2.1
      have ee1 := getD_of yy1
      refine tupon_enter (f := 12) (args := #[.slice px Xr.length cx, .int .i64 N, .int .i64 70000]) (by simp [go_sem, ee0, yy0, ee1, yy1]) rfl ?_
      exact (boxes_ok _ Xr N 70000 g.w (HXV.out.grow g.h) (by omega) (by decide) (by decide)).mono fun e w' ⟨p, c, he, hown, hB⟩ => ⟨_, he, hB, ⟨p, c, _, rfl, g.h.size, hown⟩, fun d b hd hb => by cases hd; exact (hown.lt b hb).1⟩
    · intro _ σ_ hσ
      refine oblg_of (ob_plain [3] rfl rfl fun aa g h => ?_) (fun d v hd => by cases hd; rfl)
      have yy0 := seen_out (v := .pointer (some ⟨w.heap.size, 0, none⟩)) rfl rfl h.1
      have ee0 := getD_of yy0
      exact tupon_value (v := .pointer (some ⟨w.heap.size, 4, none⟩)) (by simp [go_sem, ee0, yy0]) (Below.refl _ _) rfl
    · intro _ σ_ hσ
      refine oblg_of (ob_plain [25] rfl rfl fun aa g h => ?_) (fun d v hd => by cases hd; rfl)
      obtain ⟨_, yy0, rfl⟩ := seen_in rfl h.1
      have ee0 := getD_of yy0
      exact tupon_value (v := .agg #[.int .i64 lo, .int .i64 hi]) (by simp [go_sem, ee0, yy0, q4 g, q5 g]) (Below.refl _ _) rfl
    · intro _ σ_ hσ
      refine oblg_of (ob_plain [26] rfl rfl fun aa g h => ?_) (fun d v hd => by cases hd; rfl)
      obtain ⟨_, yy0, rfl⟩ := seen_in rfl h.1
      have ee0 := getD_of yy0
      refine tupon_enter (f := 20) (args := #[.agg #[.int .i64 lo, .int .i64 hi]]) (by simp [go_sem, ee0, yy0]) rfl ?_
      exact (KS.out g.w).mono fun e w' ⟨he, hB⟩ => ⟨_, he, hB, rfl⟩
    · intro _ σ_ hσ
      refine oblg_plain [] rfl rfl fun aa g h => ?_
      exact tupon_value (v := .slice (some ⟨g.w.heap.size, 0, none⟩) 0 0) (w1 := g.w.alloc (.cells #[] 28)) (by simp [go_sem]) ((Below.refl _ _).alloc (Nat.le_refl _) _) ⟨⟨_, _, _, rfl, g.h.size, own_emptyB _⟩, fun d b hd hb => by cases hd; obtain rfl := Option.some.inj hb; exact Nat.le_refl _⟩
    · intro _ σ_ hσ
      have hsx : σ_ 11 = false := by
        cases e : σ_ 11 with
        | false => rfl
        | true => exact absurd (hσ 11 _ e rfl) (by first | decide | decide +kernel)
      refine oblg_plain [] rfl rfl fun aa g h => ?_
      exact tupon_value (v := .pointer (some ⟨g.w.heap.size, 0, none⟩)) (w1 := g.w.alloc (.cells #[(.int .i64 0), (.int .i64 0)] 28)) (by simp [go_sem]) ((Below.refl _ _).alloc (Nat.le_refl _) _) ⟨⟨_, rfl, g.h.size, by rw [if_neg (by rw [hsx]; exact Bool.false_ne_true)]; exact World.alloc_heap_new _ _⟩, fun d b hd hb => by cases hd; obtain rfl := Option.some.inj hb; exact Nat.le_refl _⟩
    · intro _ σ_ hσ
      refine oblg_of (ob_plain [24] rfl rfl fun aa g h => ?_) (fun d v hd => by cases hd; rfl)
      obtain ⟨v0, yy0, _⟩ := seen_in rfl h.1
      have ee0 := getD_of yy0
      exact tupon_value (v := v0) (by simp [go_sem, ee0, yy0]) (Below.refl _ _) trivial
    · exact fun h => absurd h (by decide)
    · intro _ σ_ hσ
      refine oblg_of (ob_plain [28] rfl rfl fun aa g h => ?_) (fun d v hd => by cases hd; rfl)
      obtain ⟨v0, yy0, _⟩ := seen_in rfl h.1
      have ee0 := getD_of yy0
      exact tupon_value (v := v0) (by simp [go_sem, ee0, yy0]) (Below.refl _ _) trivial
  · intro i p os hm hos
    simp only [List.mem_cons, List.not_mem_nil, or_false, Prod.mk.injEq] at hm
    rcases hm with ⟨rfl, rfl⟩
    · obtain rfl := Option.some.inj hos
      intro σ_ aa gg hσ h
      obtain ⟨_, r0, X, rfl, hX, hI⟩ := seen_in rfl h.1
      have e0 := getD_of r0
      obtain ⟨_, r1, rfl⟩ := seen_in rfl h.2.1
      have e1 := getD_of r1
      rw [if_neg (by rw [hσ]; exact Bool.false_ne_true)] at hI
      have q0 := heapN_cellj hI (k := 0) rfl
      have z0 : gg.w.frozen? ⟨X, 0, none⟩ = false := by simp [World.frozen?, hI]
      have q1 := heapN_cellj hI (k := 1) rfl
      have z1 : gg.w.frozen? ⟨X, 1, none⟩ = false := by simp [World.frozen?, hI]
      refine ⟨((gg.w.setCell ⟨X, 0, none⟩ ((.int .i64 s1))).setCell ⟨X, 1, none⟩ ((.int .i64 s2))), by simp [go_sem, e0, r0, e1, r1, q0, z0, q1, z1], ((gg.h.setCell (p := ⟨X, 0, none⟩) hX _).setCell (p := ⟨X, 1, none⟩) hX _), fun t v hv hne hΦ => lk_pair ?_ hΦ⟩
      refine ⟨rfl, fun _ h => h, rfl, fun _ h => h, rfl, fun _ h => h, rfl, fun _ h => h, rfl, ?_, rfl, fun _ h => h, rfl, fun _ h => h, rfl, fun _ h => h, rfl, ?_, rfl, ?_, rfl, fun _ h => h, rfl, fun _ h => h, trivial⟩
      · intro e hx
        subst e
        obtain ⟨p, c, B, rfl, hB, ho⟩ := hx
        have hn := hne (by decide) _ X r0 rfl
        exact ⟨p, c, B, rfl, hB, ((ho.kept (grownBy_setN _ ⟨X, 0, none⟩ _) (.inr hn)).kept (grownBy_setN _ ⟨X, 1, none⟩ _) (.inr hn))⟩
      · intro e hx
        subst e
        obtain ⟨p, c, B, rfl, hB, ho⟩ := hx
        have hn := hne (by decide) _ X r0 rfl
        exact ⟨p, c, B, rfl, hB, ((ho.kept (grownBy_setN _ ⟨X, 0, none⟩ _) (.inr hn)).kept (grownBy_setN _ ⟨X, 1, none⟩ _) (.inr hn))⟩
      · intro e hx
        subst e
        obtain ⟨X', rfl, hX', hI'⟩ := hx
        rw [r0] at hv
        have e := Option.some.inj hv
        simp only [Value.pointer.injEq, Option.some.injEq, Addr.mk.injEq, and_true] at e
        subst e
        exact ⟨X, rfl, hX, by rw [if_pos (updS_self _ _)]; exact cellsT_setN (o := 1) (u := (.int .i64 s2)) (cellsT_setN (o := 0) (u := (.int .i64 s1)) (hI))⟩
  rintro w6 hB6 _ rfl _ rfl _ rfl _ rfl _ ⟨p24, c24, B24, rfl, hB24, ho24⟩ _ rfl _ rfl _ rfl _ ⟨p28, c28, B28, rfl, hB28, ho28⟩ _ ⟨X10, rfl, hX10, hI10⟩ v9 - v11 -
  simp only [Act.put, List.setIfInBounds_toArray, List.set_cons_succ, List.set_cons_zero, List.filterMap_nil, finP]
  intro hdis hcp
  have e9 : v9 = .slice p24 N c24 := Option.some.inj (hcp (9, 24) (by simp))
  have e11 : v11 = .slice p28 0 c28 := Option.some.inj (hcp (11, 28) (by simp))
  subst e9
  subst e11
  have n1 := hdis 10 28 _ _ X10 (by decide) (by decide) (by decide) rfl rfl rfl
  have n2 : ∀ b, (Value.slice p24 N c24).ownBlock = some b → (Value.slice p28 0 c28).ownBlock ≠ some b := fun b h => hdis 24 28 _ _ b (by decide) (by decide) (by decide) rfl rfl h
  obtain ⟨l, hl⟩ : ∃ l, boxI Xr N 70000 = l := ⟨_, rfl⟩
  have hlen := boxI_len Xr N 70000
  have hbd := boxI_bd Xr N (d := 70000) (by decide)
  rw [hl] at ho24 hlen hbd
  have HI := Lib.hid (show IsoI W5 p24 c24 N X10 l (widL l [b0, b1, b2, b3, b4, b5] 0) s1 s2 0 (.slice p28 0 c28) w6 from ⟨hB6, own_base ho28 hB28, own_base ho24 hB24, hI10, n1, n2⟩)
  have HLEN := Lib.hid hlen
  have HBD := Lib.hid hbd
  clear hdis hcp n1 n2 hl hlen hbd ho24 ho28 hI10 hB6 q3 q4 q5 k0 hB24 hB28 hX10
  obtain ⟨i0, hi0, hz0, hz1, hz2⟩ := info_parts info_ivB
  go_wp2_with (fail)
  go_loopw [11, 12] (fun v i wr => ∃ k : Nat, i = .int .i64 k ∧ k ≤ N ∧ Hid (IsoI W5 p24 c24 N X10 l (widL l [b0, b1, b2, b3, b4, b5] k) s1 s2 k v wr)) (fun v i _ => N - (intOf i).toNat)
  case atStart => exact ⟨0, rfl, Nat.zero_le _, HI⟩
  case round =>
    clear HI
    obtain ⟨k, rfl, hk, HI⟩ := hrel
    obtain ⟨pv, cv, rfl⟩ := own_slice HI.out.row
    have HT := Lib.hid (HI.out.bel)
    by_cases hlt : k < N
    · have i2 : (k : Int) < N := by omega
      have i6 : (k : Int) < 6 := by omega
      have i7 : ((5 - k : Nat) : Int) < 6 := by omega
      obtain ⟨⟨x, y⟩, hx⟩ : ∃ x, l[k]? = some x := ⟨_, List.getElem?_eq_getElem (by rw [HLEN.out]; exact hlt)⟩
      obtain ⟨hx1, hx2, hx3, hx4⟩ := HBD.out _ (List.mem_of_getElem? hx)
      dsimp only at hx1 hx2 hx3 hx4
      have hw := widL_snoc l [b0, b1, b2, b3, b4, b5] k
      have hgd : l.getD k (0, 0) = (x, y) := by rw [List.getD_eq_getElem?_getD, hx]; rfl
      have hwk : wid l [b0, b1, b2, b3, b4, b5] k = (x - [b0, b1, b2, b3, b4, b5].getD k 0, y + [b0, b1, b2, b3, b4, b5].getD (5 - k) 0) := by unfold wid; rw [hgd]
      have hb1 := bs_bd HBY.out k
      have hb2 := bs_bd HBY.out (5 - k)
      have y1 := fun g : Grown wr => by_at ((HA.out.grow HI.out.bel).grow g.h) (k := k) (by omega)
      have y2 := fun g : Grown wr => by_at ((HA.out.grow HI.out.bel).grow g.h) (k := 5 - k) (by omega)
      obtain ⟨B1, hB1⟩ : ∃ B1, [b0, b1, b2, b3, b4, b5].getD k 0 = B1 := ⟨_, rfl⟩
      obtain ⟨B2, hB2⟩ : ∃ B2, [b0, b1, b2, b3, b4, b5].getD (5 - k) 0 = B2 := ⟨_, rfl⟩
      rw [hB1] at hb1 y1 hwk
      rw [hB2] at hb2 y2 hwk
      rw [hwk] at hw
      have HWK := Lib.hid hw
      have hvx : Vx wr (.slice p24 N c24) l := by
        have h := HI.out.base
        have hl := HLEN.out
        rw [← hl] at h
        have := Rx.own encB_len h (by unfold maxLen; omega)
        rw [hl] at this
        exact this
      obtain ⟨bl, ol, hpe, hbl, rdl⟩ := vx_rd hvx hx
      subst hpe
      have f0 := fun g : Grown wr => (rdl g).1
      have f1 := fun g : Grown wr => (rdl g).2
      have U1 : IntKind.i64.wrap B1 = B1 := wrapI _ (by omega) (by omega)
      have U2 : IntKind.i64.wrap (x - B1) = x - B1 := wrapI _ (by omega) (by omega)
      have U3 : IntKind.i64.wrap (5 - (k : Int)) = ((5 - k : Nat) : Int) := by rw [wrapI _ (by omega) (by omega)]; omega
      have U4 : IntKind.i64.wrap B2 = B2 := wrapI _ (by omega) (by omega)
      have U5 : IntKind.i64.wrap (y + B2) = y + B2 := wrapI _ (by omega) (by omega)
      have KN := Lib.hid (fun w => new_at (x - B1) (y + B2) (by unfold Num; omega) (by unfold Num; omega) w)
      clear hx hw hgd hwk hB1 hB2 hvx rdl hx1 hx2 hx3 hx4 hb1 hb2
      go_wp2_with (fail)
      refine region_pred_n 24 (lk [(35, fun z_ _ => z_ = .slice pv k cv), (36, fun z_ _ => z_ = .slice (some ⟨bl, ol, none⟩) N c24), (37, fun z_ _ => z_ = .int .i64 (k : Int)), (38, fun z_ _ => z_ = .pointer (some ⟨bl, ol + k * 2, none⟩)), (39, fun z_ _ => z_ = .pointer (some ⟨bl, ol + k * 2, none⟩)), (40, fun z_ _ => z_ = .int .i64 x), (41, fun z_ _ => z_ = .int .i64 (k : Int)), (42, fun z_ _ => z_ = .pointer (some ⟨w.heap.size + 1, k, none⟩)), (43, fun z_ _ => z_ = .int .u16 B1), (44, fun z_ _ => z_ = .int .i64 B1), (45, fun z_ _ => z_ = .int .i64 (x - B1)), (46, fun z_ _ => z_ = .slice (some ⟨bl, ol, none⟩) N c24), (47, fun z_ _ => z_ = .int .i64 (k : Int)), (48, fun z_ _ => z_ = .pointer (some ⟨bl, ol + k * 2, none⟩)), (49, fun z_ _ => z_ = .pointer (some ⟨bl, ol + k * 2 + 1, none⟩)), (50, fun z_ _ => z_ = .int .i64 y), (51, fun z_ _ => z_ = .int .i64 (k : Int)), (52, fun z_ _ => z_ = .int .i64 ((5 - k : Nat) : Int)), (53, fun z_ _ => z_ = .pointer (some ⟨w.heap.size + 1, 5 - k, none⟩)), (54, fun z_ _ => z_ = .int .u16 B2), (55, fun z_ _ => z_ = .int .i64 B2), (56, fun z_ _ => z_ = .int .i64 (y + B2)), (57, fun z_ _ => z_ = .agg #[.int .i64 (x - B1), .int .i64 (y + B2)]), (58, fun z_ w' => ∃ X_, z_ = .slice (some ⟨X_, 0, none⟩) 1 1 ∧ wr.heap.size ≤ X_ ∧ w'.heap[X_]? = some (.cells #[.int .i64 (x - B1), .int .i64 (y + B2)] 28 (0, 0)))]) (by kernel_rfl) (by kernel_rfl) (lk_steady _ ⟨steady_eq _, steady_eq _, steady_eq _, steady_eq _, steady_eq _, steady_eq _, steady_eq _, steady_eq _, steady_eq _, steady_eq _, steady_eq _, steady_eq _, steady_eq _, steady_eq _, steady_eq _, steady_eq _, steady_eq _, steady_eq _, steady_eq _, steady_eq _, steady_eq _, steady_eq _, steady_eq _, fun u w1 w2 hb ⟨X, e, h1, h2⟩ => ⟨X, e, h1, (hb.block X (Array.getElem?_eq_some_iff.1 h2).1).trans h2⟩, trivial⟩) ?_ ?_
      · refine ⟨?_, ?_, ?_, ?_, ?_, ?_, ?_, ?_, ?_, ?_, ?_, ?_, ?_, ?_, ?_, ?_, ?_, ?_, ?_, ?_, ?_, ?_, ?_, ?_, trivial⟩
        · refine ob_plain [11] rfl rfl fun aa g h => ?_
          have yy0 := seen_out (v := .slice pv k cv) rfl rfl h.1
          have ee0 := getD_of yy0
          exact tupon_value (v := .slice pv k cv) (by simp [go_sem, ee0, yy0]) (Below.refl _ _) rfl
        · refine ob_plain [9] rfl rfl fun aa g h => ?_
          have yy0 := seen_out (v := .slice (some ⟨bl, ol, none⟩) N c24) rfl rfl h.1
          have ee0 := getD_of yy0
          exact tupon_value (v := .slice (some ⟨bl, ol, none⟩) N c24) (by simp [go_sem, ee0, yy0]) (Below.refl _ _) rfl
        · refine ob_plain [12] rfl rfl fun aa g h => ?_
          have yy0 := seen_out (v := .int .i64 (k : Int)) rfl rfl h.1
          have ee0 := getD_of yy0
          exact tupon_value (v := .int .i64 (k : Int)) (by simp [go_sem, ee0, yy0]) (Below.refl _ _) rfl
        · refine ob_plain [36, 37] rfl rfl fun aa g h => ?_
          obtain ⟨_, yy0, rfl⟩ := seen_in rfl h.1
          have ee0 := getD_of yy0
          obtain ⟨_, yy1, rfl⟩ := seen_in rfl h.2.1
          have ee1 := getD_of yy1
          exact tupon_value (v := .pointer (some ⟨bl, ol + k * 2, none⟩)) (by simp [go_sem, ee0, yy0, ee1, yy1, i2]) (Below.refl _ _) rfl
        · refine ob_plain [38] rfl rfl fun aa g h => ?_
          obtain ⟨_, yy0, rfl⟩ := seen_in rfl h.1
          have ee0 := getD_of yy0
          exact tupon_value (v := .pointer (some ⟨bl, ol + k * 2, none⟩)) (by simp [go_sem, ee0, yy0]) (Below.refl _ _) rfl
        · refine ob_plain [39] rfl rfl fun aa g h => ?_
          obtain ⟨_, yy0, rfl⟩ := seen_in rfl h.1
          have ee0 := getD_of yy0
          exact tupon_value (v := .int .i64 x) (by simp [go_sem, ee0, yy0, f0 g]) (Below.refl _ _) rfl
        · refine ob_plain [12] rfl rfl fun aa g h => ?_
          have yy0 := seen_out (v := .int .i64 (k : Int)) rfl rfl h.1
          have ee0 := getD_of yy0
          exact tupon_value (v := .int .i64 (k : Int)) (by simp [go_sem, ee0, yy0]) (Below.refl _ _) rfl
        · refine ob_plain [4, 41] rfl rfl fun aa g h => ?_
          have yy0 := seen_out (v := .pointer (some ⟨w.heap.size + 1, 0, none⟩)) rfl rfl h.1
          have ee0 := getD_of yy0
          obtain ⟨_, yy1, rfl⟩ := seen_in rfl h.2.1
          have ee1 := getD_of yy1
          exact tupon_value (v := .pointer (some ⟨w.heap.size + 1, k, none⟩)) (by simp [go_sem, ee0, yy0, ee1, yy1, i6]) (Below.refl _ _) rfl
        · refine ob_plain [42] rfl rfl fun aa g h => ?_
          obtain ⟨_, yy0, rfl⟩ := seen_in rfl h.1
          have ee0 := getD_of yy0
          exact tupon_value (v := .int .u16 B1) (by simp [go_sem, ee0, yy0, y1 g]) (Below.refl _ _) rfl
        · refine ob_plain [43] rfl rfl fun aa g h => ?_
          obtain ⟨_, yy0, rfl⟩ := seen_in rfl h.1
          have ee0 := getD_of yy0
          exact tupon_value (v := .int .i64 B1) (by simp [go_sem, ee0, yy0, U1]) (Below.refl _ _) rfl
        · refine ob_plain [40, 44] rfl rfl fun aa g h => ?_
          obtain ⟨_, yy0, rfl⟩ := seen_in rfl h.1
          have ee0 := getD_of yy0
          obtain ⟨_, yy1, rfl⟩ := seen_in rfl h.2.1
          have ee1 := getD_of yy1
          exact tupon_value (v := .int .i64 (x - B1)) (by simp [go_sem, ee0, yy0, ee1, yy1, U2]) (Below.refl _ _) rfl
        · refine ob_plain [9] rfl rfl fun aa g h => ?_
          have yy0 := seen_out (v := .slice (some ⟨bl, ol, none⟩) N c24) rfl rfl h.1
          have ee0 := getD_of yy0
          exact tupon_value (v := .slice (some ⟨bl, ol, none⟩) N c24) (by simp [go_sem, ee0, yy0]) (Below.refl _ _) rfl
        · refine ob_plain [12] rfl rfl fun aa g h => ?_
          have yy0 := seen_out (v := .int .i64 (k : Int)) rfl rfl h.1
          have ee0 := getD_of yy0
          exact tupon_value (v := .int .i64 (k : Int)) (by simp [go_sem, ee0, yy0]) (Below.refl _ _) rfl
        · refine ob_plain [46, 47] rfl rfl fun aa g h => ?_
          obtain ⟨_, yy0, rfl⟩ := seen_in rfl h.1
          have ee0 := getD_of yy0
          obtain ⟨_, yy1, rfl⟩ := seen_in rfl h.2.1
          have ee1 := getD_of yy1
          exact tupon_value (v := .pointer (some ⟨bl, ol + k * 2, none⟩)) (by simp [go_sem, ee0, yy0, ee1, yy1, i2]) (Below.refl _ _) rfl
        · refine ob_plain [48] rfl rfl fun aa g h => ?_
          obtain ⟨_, yy0, rfl⟩ := seen_in rfl h.1
          have ee0 := getD_of yy0
          exact tupon_value (v := .pointer (some ⟨bl, ol + k * 2 + 1, none⟩)) (by simp [go_sem, ee0, yy0]) (Below.refl _ _) rfl
        · refine ob_plain [49] rfl rfl fun aa g h => ?_
          obtain ⟨_, yy0, rfl⟩ := seen_in rfl h.1
          have ee0 := getD_of yy0
          exact tupon_value (v := .int .i64 y) (by simp [go_sem, ee0, yy0, f1 g]) (Below.refl _ _) rfl
        · refine ob_plain [12] rfl rfl fun aa g h => ?_
          have yy0 := seen_out (v := .int .i64 (k : Int)) rfl rfl h.1
          have ee0 := getD_of yy0
          exact tupon_value (v := .int .i64 (k : Int)) (by simp [go_sem, ee0, yy0]) (Below.refl _ _) rfl
        · refine ob_plain [51] rfl rfl fun aa g h => ?_
          obtain ⟨_, yy0, rfl⟩ := seen_in rfl h.1
          have ee0 := getD_of yy0
          exact tupon_value (v := .int .i64 ((5 - k : Nat) : Int)) (by simp [go_sem, ee0, yy0, U3]) (Below.refl _ _) rfl
        · refine ob_plain [4, 52] rfl rfl fun aa g h => ?_
          have yy0 := seen_out (v := .pointer (some ⟨w.heap.size + 1, 0, none⟩)) rfl rfl h.1
          have ee0 := getD_of yy0
          obtain ⟨_, yy1, rfl⟩ := seen_in rfl h.2.1
          have ee1 := getD_of yy1
          exact tupon_value (v := .pointer (some ⟨w.heap.size + 1, 5 - k, none⟩)) (by simp [go_sem, ee0, yy0, ee1, yy1, i7]) (Below.refl _ _) rfl
        · refine ob_plain [53] rfl rfl fun aa g h => ?_
          obtain ⟨_, yy0, rfl⟩ := seen_in rfl h.1
          have ee0 := getD_of yy0
          exact tupon_value (v := .int .u16 B2) (by simp [go_sem, ee0, yy0, y2 g]) (Below.refl _ _) rfl
        · refine ob_plain [54] rfl rfl fun aa g h => ?_
          obtain ⟨_, yy0, rfl⟩ := seen_in rfl h.1
          have ee0 := getD_of yy0
          exact tupon_value (v := .int .i64 B2) (by simp [go_sem, ee0, yy0, U4]) (Below.refl _ _) rfl
        · refine ob_plain [50, 55] rfl rfl fun aa g h => ?_
          obtain ⟨_, yy0, rfl⟩ := seen_in rfl h.1
          have ee0 := getD_of yy0
          obtain ⟨_, yy1, rfl⟩ := seen_in rfl h.2.1
          have ee1 := getD_of yy1
          exact tupon_value (v := .int .i64 (y + B2)) (by simp [go_sem, ee0, yy0, ee1, yy1, U5]) (Below.refl _ _) rfl
        · refine ob_plain [45, 56] rfl rfl fun aa g h => ?_
          obtain ⟨_, yy0, rfl⟩ := seen_in rfl h.1
          have ee0 := getD_of yy0
          obtain ⟨_, yy1, rfl⟩ := seen_in rfl h.2.1
          have ee1 := getD_of yy1
          refine tupon_enter (f := 21) (args := #[.int .i64 (x - B1), .int .i64 (y + B2)]) (by simp [go_sem, ee0, yy0, ee1, yy1]) rfl ?_
          exact (KN.out g.w).mono fun e w' ⟨he, hB⟩ => ⟨_, he, hB, rfl⟩
        · refine ob_plain [57] rfl rfl fun aa g h => ?_
          obtain ⟨_, yy0, rfl⟩ := seen_in rfl h.1
          have ee0 := getD_of yy0
          exact tupon_value (v := .slice (some ⟨g.w.heap.size, 0, none⟩) 1 1) (w1 := g.w.alloc (.cells #[.int .i64 (x - B1), .int .i64 (y + B2)] 28)) (by simp [go_sem, ee0, yy0]) ((Below.refl _ _).alloc (Nat.le_refl _) _) ⟨_, rfl, g.h.size, World.alloc_heap_new _ _⟩
      rintro w9 hB9 _ rfl _ rfl _ rfl _ rfl _ rfl _ rfl _ rfl _ rfl _ rfl _ rfl _ rfl _ rfl _ rfl _ rfl _ rfl _ rfl _ rfl _ rfl _ rfl _ rfl _ rfl _ rfl _ rfl _ ⟨X58, rfl, hX58, hI58⟩
      simp only [Act.put, List.setIfInBounds_toArray, List.set_cons_succ, List.set_cons_zero, finP, List.drop_succ_cons, List.drop_zero, List.take_zero, List.filterMap_nil]
      have HI9 := Lib.hid (HI.out.grow hB9)
      have HNB := Lib.hid (cell_b (x - B1, y + B2) hI58)
      clear hB9 hI58 hX58 y1 y2 f0 f1 U1 U2 U3 U4 U5 KN HT HI
      go_wp2_with (at_builtin; refine wpList_append_at _ rfl (.tmp 35) (.tmp 58) 26 rfl W5.heap.size 28 i0 (.agg #[.int .i64 0, .int .i64 0]) 2 16 Try.underlying26 hi0 hz0 hz1 hz2 rfl (by decide) (.slice pv k cv) k _ rfl HI9.out.row ⟨X58, 0, none⟩ 1 1 (encB (x - B1, y + B2)) rfl rfl HNB.out (one_b _) (by unfold maxLen; omega) (by omega) HI9.out.bel.size ?_)
      intro v' w8 hown' hgrow hat
      have HI8 := Lib.hid (HI9.out.push hown' hgrow hat)
      rw [← HWK.out] at HI8
      clear hown' hgrow hat HI9 HNB
      go_wp2_with (fail)
      go_roundw
      case rel => exact ⟨k + 1, by go_num, by omega, HI8⟩
      case measure => simp [intOf]; omega
    · obtain rfl : N = k := by omega
      have i2 : ¬ (N : Int) < N := by omega
      have HC := Lib.hid (HC.out.grow HI.out.bel)
      have HUT := Lib.hid (HUT.out.grow HI.out.bel)
      have HRO := Lib.hid (HRO.out.grow HI.out.bel)
      have hvl1 : Vx wr (.slice p24 N c24) l := by
        have h := HI.out.base
        have hl := HLEN.out
        rw [← hl] at h
        have := Rx.own encB_len h (by unfold maxLen; omega)
        rw [hl] at this
        exact this
      obtain ⟨M, hM⟩ : ∃ M, widL l [b0, b1, b2, b3, b4, b5] N = M := ⟨_, rfl⟩
      have hml : M.length = N := by rw [← hM, widL_len]
      have hvl2 : Vx wr (.slice pv N cv) M := by
        have h := HI.out.row
        rw [hM, ← hml] at h
        have := Rx.own encB_len h (by unfold maxLen; omega)
        rw [hml] at this
        exact this
      have hsb : SbL l M := by
        have h := wid_sb (d := 70000) (by decide) HBD.out HBY.out
        rw [HLEN.out, hM] at h
        exact h
      have hB := HSB.out
      have hvt2 : VI (s1 - late) (s2 + late) := by unfold VI Num; omega
      have hev := evL_iso (t := (s1, s2)) (t' := (s1 - late, s2 + late)) hsb HVS.out hvt2 (by unfold SbI Sb; dsimp only; omega) HVL.out
      have hbx := HI.out.bx
      have hvi1 : ∀ p ∈ l, VI p.1 p.2 := fun p hp => by
        have := HBD.out p hp
        unfold VI Num
        omega
      have hvi2 : ∀ p ∈ M, VI p.1 p.2 := fun p hp => by
        obtain ⟨i, hi⟩ := List.getElem?_of_mem hp
        obtain ⟨q, hq⟩ : ∃ q, l[i]? = some q := ⟨_, List.getElem?_eq_getElem (by rw [hsb.1]; exact (List.getElem?_eq_some_iff.1 hi).1)⟩
        exact (hsb.2 i q p hq hi).2.1
      obtain ⟨P, hP⟩ : ∃ P, outV (evL l (s1, s2) T) O = P := ⟨_, rfl⟩
      obtain ⟨Q, hQ⟩ : ∃ Q, outV (evL M (s1 - late, s2 + late) T) O = Q := ⟨_, rfl⟩
      have hPl : P.length = N := by rw [← hP]; unfold outV; rw [List.length_map, HM.out]
      have hQl : Q.length = N := by rw [← hQ]; unfold outV; rw [List.length_map, HM.out]
      have hpq : ∀ k a1 a2 c1 c2, P[k]? = some (a1, a2) → Q[k]? = some (c1, c2) → VI a1 a2 ∧ c1 ≤ a1 ∧ a2 ≤ c2 := fun k a1 a2 c1 c2 h1 h2 => out_at hev k a1 a2 c1 c2 (by rw [hP]; exact h1) (by rw [hQ]; exact h2)
      have HPQ := Lib.hid hpq
      have HPL := Lib.hid hPl
      have HQL := Lib.hid hQl
      have KE1 := Lib.hid (fun w vl vo vx a b c => eval_at N vl vo vx s1 s2 T O l P w a b c (by rw [HLEN.out]) HTV.out hvi1 HVS.out hP)
      have KE2 := Lib.hid (fun w vl vo vx a b c => eval_at N vl vo vx (s1 - late) (s2 + late) T O M Q w a b c (by rw [hml]) HTV.out hvi2 hvt2 hQ)
      have KN := Lib.hid (fun w => new_at (s1 - late) (s2 + late) (by unfold Num; omega) (by unfold Num; omega) w)
      have U6 : IntKind.i64.wrap late = late := wrapI _ (by omega) (by omega)
      have U7 : IntKind.i64.wrap (s1 - late) = s1 - late := wrapI _ (by omega) (by omega)
      have U8 : IntKind.i64.wrap (s2 + late) = s2 + late := wrapI _ (by omega) (by omega)
      have HV1 := Lib.hid hvl1
      have HV2 := Lib.hid hvl2
      have k0 := fun g : Grown wr => heapN_cellj (HC.out.grow g.h) (k := 0) rfl
      have k1 := fun g : Grown wr => heapN_cellj (HC.out.grow g.h) (k := 1) rfl
      have k2 := fun g : Grown wr => heapN_cellj (HC.out.grow g.h) (k := 2) rfl
      have x0 := fun g : Grown wr => heapN_cellj ((g.h.block X10 (Array.getElem?_eq_some_iff.1 hbx).1).trans hbx) (k := 0) rfl
      have x1 := fun g : Grown wr => heapN_cellj ((g.h.block X10 (Array.getElem?_eq_some_iff.1 hbx).1).trans hbx) (k := 1) rfl
      clear hM hml hsb hB hvt2 hev hbx hvi1 hvi2 hP hQ hPl hQl hpq hvl1 hvl2
      go_wp2_with (fail)
      refine region_pred (lk [(60, fun z_ _ => z_ = .agg #[.int .i64 N, .slice pu T.length cu, .slice pr N cr']), (61, fun z_ _ => z_ = .slice p24 N c24), (62, fun z_ _ => z_ = .agg #[.int .i64 s1, .int .i64 s2]), (63, fun z_ w' => Vx w' z_ P), (64, fun z_ _ => z_ = .agg #[.int .i64 N, .slice pu T.length cu, .slice pr N cr']), (65, fun z_ _ => z_ = .slice pv N cv), (66, fun z_ _ => z_ = .pointer (some ⟨X10, 0, none⟩)), (67, fun z_ _ => z_ = .int .i64 s1), (68, fun z_ _ => z_ = .int .u16 late), (69, fun z_ _ => z_ = .int .i64 late), (70, fun z_ _ => z_ = .int .i64 (s1 - late)), (71, fun z_ _ => z_ = .pointer (some ⟨X10, 1, none⟩)), (72, fun z_ _ => z_ = .int .i64 s2), (73, fun z_ _ => z_ = .int .u16 late), (74, fun z_ _ => z_ = .int .i64 late), (75, fun z_ _ => z_ = .int .i64 (s2 + late)), (76, fun z_ _ => z_ = .agg #[.int .i64 (s1 - late), .int .i64 (s2 + late)]), (77, fun z_ w' => Vx w' z_ Q), (13, fun z_ w' => Vx w' z_ P), (14, fun z_ w' => Vx w' z_ Q)]) (by kernel_rfl) (by kernel_rfl) (lk_steady _ ⟨steady_eq _, steady_eq _, steady_eq _, fun u w1 w2 hb h => h.grow hb, steady_eq _, steady_eq _, steady_eq _, steady_eq _, steady_eq _, steady_eq _, steady_eq _, steady_eq _, steady_eq _, steady_eq _, steady_eq _, steady_eq _, steady_eq _, fun u w1 w2 hb h => h.grow hb, fun u w1 w2 hb h => h.grow hb, fun u w1 w2 hb h => h.grow hb, trivial⟩) ?_ ?_
      · refine ⟨?_, ?_, ?_, ?_, ?_, ?_, ?_, ?_, ?_, ?_, ?_, ?_, ?_, ?_, ?_, ?_, ?_, ?_, ?_, ?_, trivial⟩
        · refine ob_plain [8] rfl rfl fun aa g h => ?_
          have yy0 := seen_out (v := .pointer (some ⟨w2.heap.size, 0, none⟩)) rfl rfl h.1
          have ee0 := getD_of yy0
          exact tupon_value (v := .agg #[.int .i64 N, .slice pu T.length cu, .slice pr N cr']) (by simp [go_sem, ee0, yy0, k0 g, k1 g, k2 g]) (Below.refl _ _) rfl
        · refine ob_plain [9] rfl rfl fun aa g h => ?_
          have yy0 := seen_out (v := .slice p24 N c24) rfl rfl h.1
          have ee0 := getD_of yy0
          exact tupon_value (v := .slice p24 N c24) (by simp [go_sem, ee0, yy0]) (Below.refl _ _) rfl
        · refine ob_plain [10] rfl rfl fun aa g h => ?_
          have yy0 := seen_out (v := .pointer (some ⟨X10, 0, none⟩)) rfl rfl h.1
          have ee0 := getD_of yy0
          exact tupon_value (v := .agg #[.int .i64 s1, .int .i64 s2]) (by simp [go_sem, ee0, yy0, x0 g, x1 g]) (Below.refl _ _) rfl
        · refine ob_plain [60, 61, 62] rfl rfl fun aa g h => ?_
          obtain ⟨_, yy0, rfl⟩ := seen_in rfl h.1
          have ee0 := getD_of yy0
          obtain ⟨_, yy1, rfl⟩ := seen_in rfl h.2.1
          have ee1 := getD_of yy1
          obtain ⟨_, yy2, rfl⟩ := seen_in rfl h.2.2.1
          have ee2 := getD_of yy2
          refine tupon_enter (f := 16) (args := #[.agg #[.int .i64 N, .slice pu T.length cu, .slice pr N cr'], .slice p24 N c24, .agg #[.int .i64 s1, .int .i64 s2]]) (by simp [go_sem, ee0, yy0, ee1, yy1, ee2, yy2]) rfl ?_
          exact (KE1.out g.w _ _ _ (HUT.out.grow g.h) (HRO.out.grow g.h) (HV1.out.grow g.h)).mono fun e w' ⟨u9, he, hv, hB⟩ => ⟨_, he, hB, hv⟩
        · refine ob_plain [8] rfl rfl fun aa g h => ?_
          have yy0 := seen_out (v := .pointer (some ⟨w2.heap.size, 0, none⟩)) rfl rfl h.1
          have ee0 := getD_of yy0
          exact tupon_value (v := .agg #[.int .i64 N, .slice pu T.length cu, .slice pr N cr']) (by simp [go_sem, ee0, yy0, k0 g, k1 g, k2 g]) (Below.refl _ _) rfl
        · refine ob_plain [11] rfl rfl fun aa g h => ?_
          have yy0 := seen_out (v := .slice pv N cv) rfl rfl h.1
          have ee0 := getD_of yy0
          exact tupon_value (v := .slice pv N cv) (by simp [go_sem, ee0, yy0]) (Below.refl _ _) rfl
        · refine ob_plain [10] rfl rfl fun aa g h => ?_
          have yy0 := seen_out (v := .pointer (some ⟨X10, 0, none⟩)) rfl rfl h.1
          have ee0 := getD_of yy0
          exact tupon_value (v := .pointer (some ⟨X10, 0, none⟩)) (by simp [go_sem, ee0, yy0]) (Below.refl _ _) rfl
        · refine ob_plain [66] rfl rfl fun aa g h => ?_
          obtain ⟨_, yy0, rfl⟩ := seen_in rfl h.1
          have ee0 := getD_of yy0
          exact tupon_value (v := .int .i64 s1) (by simp [go_sem, ee0, yy0, x0 g]) (Below.refl _ _) rfl
        · refine ob_plain [2] rfl rfl fun aa g h => ?_
          have yy0 := seen_out (v := .int .u16 late) rfl rfl h.1
          have ee0 := getD_of yy0
          exact tupon_value (v := .int .u16 late) (by simp [go_sem, ee0, yy0]) (Below.refl _ _) rfl
        · refine ob_plain [68] rfl rfl fun aa g h => ?_
          obtain ⟨_, yy0, rfl⟩ := seen_in rfl h.1
          have ee0 := getD_of yy0
          exact tupon_value (v := .int .i64 late) (by simp [go_sem, ee0, yy0, U6]) (Below.refl _ _) rfl
        · refine ob_plain [67, 69] rfl rfl fun aa g h => ?_
          obtain ⟨_, yy0, rfl⟩ := seen_in rfl h.1
          have ee0 := getD_of yy0
          obtain ⟨_, yy1, rfl⟩ := seen_in rfl h.2.1
          have ee1 := getD_of yy1
          exact tupon_value (v := .int .i64 (s1 - late)) (by simp [go_sem, ee0, yy0, ee1, yy1, U7]) (Below.refl _ _) rfl
        · refine ob_plain [10] rfl rfl fun aa g h => ?_
          have yy0 := seen_out (v := .pointer (some ⟨X10, 0, none⟩)) rfl rfl h.1
          have ee0 := getD_of yy0
          exact tupon_value (v := .pointer (some ⟨X10, 1, none⟩)) (by simp [go_sem, ee0, yy0]) (Below.refl _ _) rfl
        · refine ob_plain [71] rfl rfl fun aa g h => ?_
          obtain ⟨_, yy0, rfl⟩ := seen_in rfl h.1
          have ee0 := getD_of yy0
          exact tupon_value (v := .int .i64 s2) (by simp [go_sem, ee0, yy0, x1 g]) (Below.refl _ _) rfl
        · refine ob_plain [2] rfl rfl fun aa g h => ?_
          have yy0 := seen_out (v := .int .u16 late) rfl rfl h.1
          have ee0 := getD_of yy0
          exact tupon_value (v := .int .u16 late) (by simp [go_sem, ee0, yy0]) (Below.refl _ _) rfl
        · refine ob_plain [73] rfl rfl fun aa g h => ?_
          obtain ⟨_, yy0, rfl⟩ := seen_in rfl h.1
          have ee0 := getD_of yy0
          exact tupon_value (v := .int .i64 late) (by simp [go_sem, ee0, yy0, U6]) (Below.refl _ _) rfl
        · refine ob_plain [72, 74] rfl rfl fun aa g h => ?_
          obtain ⟨_, yy0, rfl⟩ := seen_in rfl h.1
          have ee0 := getD_of yy0
          obtain ⟨_, yy1, rfl⟩ := seen_in rfl h.2.1
          have ee1 := getD_of yy1
          exact tupon_value (v := .int .i64 (s2 + late)) (by simp [go_sem, ee0, yy0, ee1, yy1, U8]) (Below.refl _ _) rfl
        · refine ob_plain [70, 75] rfl rfl fun aa g h => ?_
          obtain ⟨_, yy0, rfl⟩ := seen_in rfl h.1
          have ee0 := getD_of yy0
          obtain ⟨_, yy1, rfl⟩ := seen_in rfl h.2.1
          have ee1 := getD_of yy1
          refine tupon_enter (f := 21) (args := #[.int .i64 (s1 - late), .int .i64 (s2 + late)]) (by simp [go_sem, ee0, yy0, ee1, yy1]) rfl ?_
          exact (KN.out g.w).mono fun e w' ⟨he, hB⟩ => ⟨_, he, hB, rfl⟩
        · refine ob_plain [64, 65, 76] rfl rfl fun aa g h => ?_
          obtain ⟨_, yy0, rfl⟩ := seen_in rfl h.1
          have ee0 := getD_of yy0
          obtain ⟨_, yy1, rfl⟩ := seen_in rfl h.2.1
          have ee1 := getD_of yy1
          obtain ⟨_, yy2, rfl⟩ := seen_in rfl h.2.2.1
          have ee2 := getD_of yy2
          refine tupon_enter (f := 16) (args := #[.agg #[.int .i64 N, .slice pu T.length cu, .slice pr N cr'], .slice pv N cv, .agg #[.int .i64 (s1 - late), .int .i64 (s2 + late)]]) (by simp [go_sem, ee0, yy0, ee1, yy1, ee2, yy2]) rfl ?_
          exact (KE2.out g.w _ _ _ (HUT.out.grow g.h) (HRO.out.grow g.h) (HV2.out.grow g.h)).mono fun e w' ⟨u9, he, hv, hB⟩ => ⟨_, he, hB, hv⟩
        · refine ob_plain [63] rfl rfl fun aa g h => ?_
          obtain ⟨z63, yy0, hv63⟩ := seen_in rfl h.1
          have ee0 := getD_of yy0
          exact tupon_value (v := z63) (by simp [go_sem, ee0, yy0]) (Below.refl _ _) hv63
        · refine ob_plain [77] rfl rfl fun aa g h => ?_
          obtain ⟨z77, yy0, hv77⟩ := seen_in rfl h.1
          have ee0 := getD_of yy0
          exact tupon_value (v := z77) (by simp [go_sem, ee0, yy0]) (Below.refl _ _) hv77
      rintro w9 hB9 _ rfl _ rfl _ rfl z63 hv63 _ rfl _ rfl _ rfl _ rfl _ rfl _ rfl _ rfl _ rfl _ rfl _ rfl _ rfl _ rfl _ rfl z77 hv77 z13 hv13 z14 hv14
      simp only [Act.put, List.setIfInBounds_toArray, List.set_cons_succ, List.set_cons_zero, List.filterMap_nil, finP]
      obtain ⟨pp, cp, rfl⟩ := hv13.cut
      obtain ⟨pq, cq, rfl⟩ := hv14.cut
      rw [HPL.out] at hv13 ⊢
      rw [HQL.out] at hv14 ⊢
      have HVP := Lib.hid hv13
      have HVQ := Lib.hid hv14
      have HT9 := Lib.hid (HI.out.bel.trans (hB9.mono HI.out.bel.size))
      have HC := Lib.hid (HC.out.grow hB9)
      have j0 := heapN_cellj HC.out (k := 0) rfl
      have q5 : ((N : Int) != N) = false := by simp
      clear hB9 hv13 hv14 hv63 hv77 k0 k1 k2 x0 x1 U6 U7 U8 KE1 KE2 KN HV1 HV2 i2 HI HT
      go_wp2_with (fail)
      go_loopw [15] (fun i wr => ∃ k : Nat, i = .int .i64 k ∧ k ≤ N ∧ Hid (Below w9.heap.size w9 wr)) (fun i _ => N - (intOf i).toNat)
      case atStart => exact ⟨0, rfl, Nat.zero_le _, Lib.hid (Below.refl _ _)⟩
      case round =>
        clear j0
        obtain ⟨k, rfl, hk, HB⟩ := hrel
        have j0 := heapN_cellj (HC.out.grow HB.out) (k := 0) rfl
        by_cases hlt : k < N
        · have i2 : (k : Int) < N := by omega
          obtain ⟨⟨a1, a2⟩, hx⟩ : ∃ x, P[k]? = some x := ⟨_, List.getElem?_eq_getElem (by rw [HPL.out]; exact hlt)⟩
          obtain ⟨⟨c1, c2⟩, hy⟩ : ∃ x, Q[k]? = some x := ⟨_, List.getElem?_eq_getElem (by rw [HQL.out]; exact hlt)⟩
          obtain ⟨hva, hca, hac⟩ := HPQ.out k a1 a2 c1 c2 hx hy
          obtain ⟨bp, op, hpe, hbp, rdp⟩ := vx_rd HVP.out hx
          obtain ⟨bq, oq, hqe, hbq, rdq⟩ := vx_rd HVQ.out hy
          subst hpe
          subst hqe
          have f0 := fun g : Grown wr => (rdp ⟨g.w, HB.out.trans (g.h.mono HB.out.size)⟩).1
          have f1 := fun g : Grown wr => (rdp ⟨g.w, HB.out.trans (g.h.mono HB.out.size)⟩).2
          have g0 := fun g : Grown wr => (rdq ⟨g.w, HB.out.trans (g.h.mono HB.out.size)⟩).1
          have g1 := fun g : Grown wr => (rdq ⟨g.w, HB.out.trans (g.h.mono HB.out.size)⟩).2
          have K1 := Lib.hid (fun w => r2subset_0 a1 a2 c1 c2 w hca (by simpa using hac))
          have K2 := Lib.hid (fun w => r2valid a1 a2 true w (by simpa using hva))
          clear hx hy hva hca hac rdp rdq
          go_wp2_with (fail)
          refine region_pred (lk [(96, fun z_ _ => z_ = .slice (some ⟨bp, op, none⟩) N cp), (97, fun z_ _ => z_ = .int .i64 (k : Int)), (98, fun z_ _ => z_ = .pointer (some ⟨bp, op + k * 2, none⟩)), (99, fun z_ _ => z_ = .agg #[.int .i64 a1, .int .i64 a2]), (100, fun z_ _ => z_ = .slice (some ⟨bq, oq, none⟩) N cq), (101, fun z_ _ => z_ = .int .i64 (k : Int)), (102, fun z_ _ => z_ = .pointer (some ⟨bq, oq + k * 2, none⟩)), (103, fun z_ _ => z_ = .agg #[.int .i64 c1, .int .i64 c2]), (104, fun z_ _ => z_ = .bool true), (105, fun z_ _ => z_ = .bool false), (106, fun z_ _ => z_ = .bool false), (107, fun z_ _ => z_ = .slice (some ⟨bp, op, none⟩) N cp), (108, fun z_ _ => z_ = .int .i64 (k : Int)), (109, fun z_ _ => z_ = .pointer (some ⟨bp, op + k * 2, none⟩)), (110, fun z_ _ => z_ = .agg #[.int .i64 a1, .int .i64 a2]), (111, fun z_ _ => z_ = .bool true), (112, fun z_ _ => z_ = .bool false), (113, fun z_ _ => z_ = .bool false)]) (by kernel_rfl) (by kernel_rfl) (lk_steady _ ⟨steady_eq _, steady_eq _, steady_eq _, steady_eq _, steady_eq _, steady_eq _, steady_eq _, steady_eq _, steady_eq _, steady_eq _, steady_eq _, steady_eq _, steady_eq _, steady_eq _, steady_eq _, steady_eq _, steady_eq _, steady_eq _, trivial⟩) ?_ ?_
          · refine ⟨?_, ?_, ?_, ?_, ?_, ?_, ?_, ?_, ?_, ?_, ?_, ?_, ?_, ?_, ?_, ?_, ?_, ?_, trivial⟩
            · refine ob_plain [13] rfl rfl fun aa g h => ?_
              have yy0 := seen_out (v := .slice (some ⟨bp, op, none⟩) N cp) rfl rfl h.1
              have ee0 := getD_of yy0
              exact tupon_value (v := .slice (some ⟨bp, op, none⟩) N cp) (by simp [go_sem, ee0, yy0]) (Below.refl _ _) rfl
            · refine ob_plain [15] rfl rfl fun aa g h => ?_
              have yy0 := seen_out (v := .int .i64 (k : Int)) rfl rfl h.1
              have ee0 := getD_of yy0
              exact tupon_value (v := .int .i64 (k : Int)) (by simp [go_sem, ee0, yy0]) (Below.refl _ _) rfl
            · refine ob_plain [96, 97] rfl rfl fun aa g h => ?_
              obtain ⟨_, yy0, rfl⟩ := seen_in rfl h.1
              have ee0 := getD_of yy0
              obtain ⟨_, yy1, rfl⟩ := seen_in rfl h.2.1
              have ee1 := getD_of yy1
              exact tupon_value (v := .pointer (some ⟨bp, op + k * 2, none⟩)) (by simp [go_sem, ee0, yy0, ee1, yy1, i2]) (Below.refl _ _) rfl
            · refine ob_plain [98] rfl rfl fun aa g h => ?_
              obtain ⟨_, yy0, rfl⟩ := seen_in rfl h.1
              have ee0 := getD_of yy0
              exact tupon_value (v := .agg #[.int .i64 a1, .int .i64 a2]) (by simp [go_sem, ee0, yy0, f0 g, f1 g]) (Below.refl _ _) rfl
            · refine ob_plain [14] rfl rfl fun aa g h => ?_
              have yy0 := seen_out (v := .slice (some ⟨bq, oq, none⟩) N cq) rfl rfl h.1
              have ee0 := getD_of yy0
              exact tupon_value (v := .slice (some ⟨bq, oq, none⟩) N cq) (by simp [go_sem, ee0, yy0]) (Below.refl _ _) rfl
            · refine ob_plain [15] rfl rfl fun aa g h => ?_
              have yy0 := seen_out (v := .int .i64 (k : Int)) rfl rfl h.1
              have ee0 := getD_of yy0
              exact tupon_value (v := .int .i64 (k : Int)) (by simp [go_sem, ee0, yy0]) (Below.refl _ _) rfl
            · refine ob_plain [100, 101] rfl rfl fun aa g h => ?_
              obtain ⟨_, yy0, rfl⟩ := seen_in rfl h.1
              have ee0 := getD_of yy0
              obtain ⟨_, yy1, rfl⟩ := seen_in rfl h.2.1
              have ee1 := getD_of yy1
              exact tupon_value (v := .pointer (some ⟨bq, oq + k * 2, none⟩)) (by simp [go_sem, ee0, yy0, ee1, yy1, i2]) (Below.refl _ _) rfl
            · refine ob_plain [102] rfl rfl fun aa g h => ?_
              obtain ⟨_, yy0, rfl⟩ := seen_in rfl h.1
              have ee0 := getD_of yy0
              exact tupon_value (v := .agg #[.int .i64 c1, .int .i64 c2]) (by simp [go_sem, ee0, yy0, g0 g, g1 g]) (Below.refl _ _) rfl
            · refine ob_plain [99, 103] rfl rfl fun aa g h => ?_
              obtain ⟨_, yy0, rfl⟩ := seen_in rfl h.1
              have ee0 := getD_of yy0
              obtain ⟨_, yy1, rfl⟩ := seen_in rfl h.2.1
              have ee1 := getD_of yy1
              refine tupon_enter (f := 22) (args := #[.agg #[.int .i64 a1, .int .i64 a2], .agg #[.int .i64 c1, .int .i64 c2]]) (by simp [go_sem, ee0, yy0, ee1, yy1]) rfl ?_
              exact (K1.out g.w).mono fun e w' ⟨he, hB⟩ => ⟨_, he, hB, rfl⟩
            · refine ob_plain [104] rfl rfl fun aa g h => ?_
              obtain ⟨_, yy0, rfl⟩ := seen_in rfl h.1
              have ee0 := getD_of yy0
              exact tupon_value (v := .bool false) (by simp [go_sem, ee0, yy0]) (Below.refl _ _) rfl
            · refine ob_plain [105] rfl rfl fun aa g h => ?_
              obtain ⟨_, yy0, rfl⟩ := seen_in rfl h.1
              have ee0 := getD_of yy0
              exact tupon_value (v := .bool false) (by simp [go_sem, ee0, yy0]) (Below.refl _ _) rfl
            · refine ob_gtrue [13] _ false 106 rfl rfl rfl rfl (fun v w h => h) fun aa g h => ?_
              have yy0 := seen_out (v := .slice (some ⟨bp, op, none⟩) N cp) rfl rfl h.1
              have ee0 := getD_of yy0
              exact tupon_value (v := .slice (some ⟨bp, op, none⟩) N cp) (by simp [go_sem, ee0, yy0]) (Below.refl _ _) rfl
            · refine ob_gtrue [15] _ false 106 rfl rfl rfl rfl (fun v w h => h) fun aa g h => ?_
              have yy0 := seen_out (v := .int .i64 (k : Int)) rfl rfl h.1
              have ee0 := getD_of yy0
              exact tupon_value (v := .int .i64 (k : Int)) (by simp [go_sem, ee0, yy0]) (Below.refl _ _) rfl
            · refine ob_gtrue [107, 108] _ false 106 rfl rfl rfl rfl (fun v w h => h) fun aa g h => ?_
              obtain ⟨_, yy0, rfl⟩ := seen_in rfl h.1
              have ee0 := getD_of yy0
              obtain ⟨_, yy1, rfl⟩ := seen_in rfl h.2.1
              have ee1 := getD_of yy1
              exact tupon_value (v := .pointer (some ⟨bp, op + k * 2, none⟩)) (by simp [go_sem, ee0, yy0, ee1, yy1, i2]) (Below.refl _ _) rfl
            · refine ob_gtrue [109] _ false 106 rfl rfl rfl rfl (fun v w h => h) fun aa g h => ?_
              obtain ⟨_, yy0, rfl⟩ := seen_in rfl h.1
              have ee0 := getD_of yy0
              exact tupon_value (v := .agg #[.int .i64 a1, .int .i64 a2]) (by simp [go_sem, ee0, yy0, f0 g, f1 g]) (Below.refl _ _) rfl
            · refine ob_gtrue [110] _ false 106 rfl rfl rfl rfl (fun v w h => h) fun aa g h => ?_
              obtain ⟨_, yy0, rfl⟩ := seen_in rfl h.1
              have ee0 := getD_of yy0
              refine tupon_enter (f := 23) (args := #[.agg #[.int .i64 a1, .int .i64 a2]]) (by simp [go_sem, ee0, yy0]) rfl ?_
              exact (K2.out g.w).mono fun e w' ⟨he, hB⟩ => ⟨_, he, hB, rfl⟩
            · refine ob_gtrue [111] _ false 106 rfl rfl rfl rfl (fun v w h => h) fun aa g h => ?_
              obtain ⟨_, yy0, rfl⟩ := seen_in rfl h.1
              have ee0 := getD_of yy0
              exact tupon_value (v := .bool false) (by simp [go_sem, ee0, yy0]) (Below.refl _ _) rfl
            · refine ob_plain [106, 112] rfl rfl fun aa g h => ?_
              obtain ⟨_, yy0, rfl⟩ := seen_in rfl h.1
              have ee0 := getD_of yy0
              obtain ⟨_, yy1, rfl⟩ := seen_in rfl h.2.1
              have ee1 := getD_of yy1
              exact tupon_value (v := .bool false) (by simp [go_sem, ee0, yy0, ee1, yy1]) (Below.refl _ _) rfl
          rintro w10 hB10 _ rfl _ rfl _ rfl _ rfl _ rfl _ rfl _ rfl _ rfl _ rfl _ rfl _ rfl _ rfl _ rfl _ rfl _ rfl _ rfl _ rfl _ rfl
          simp only [Act.put, List.setIfInBounds_toArray, List.set_cons_succ, List.set_cons_zero, List.filterMap_nil, finP]
          have HB10 := Lib.hid (HB.out.trans (hB10.mono HB.out.size))
          clear hB10 f0 f1 g0 g1 j0
          go_wp2_with (fail)
          go_roundw
          case rel => exact ⟨k + 1, by go_num, by omega, HB10⟩
          case measure => simp [intOf]; omega
        · obtain rfl : N = k := by omega
          have i2 : ¬ (N : Int) < N := by omega
          have HT := Lib.hid (below_then HW.out (HT9.out.trans (HB.out.mono HT9.out.size)))
          go_wp2_with (fail)
          go_ret
          exact ⟨rfl, HT.out⟩
end Go.Proofs.Ytajddejeglhbhaa
