/-
 The law of sharing.
-/
import Derived.Test.YtajddejeglhbhaaUC
import Derived.Test.YtajddejeglhbhaaUB
import Derived.Test.YtajddejeglhbhaaQmt
import Derived.Test.YtajddejeglhbhaaTk
import Derived.Test.YtajddejeglhbhaaTah
namespace Go.Proofs.Ytajddejeglhbhaa
open Go.ChangeShapes Go.WideShapes Go.ChangeAt Go.RowKit Go.Maps
set_option linter.unusedVariables false
set_option linter.unusedSimpArgs false
set_option maxRecDepth 100000
attribute [local irreducible] Calls
theorem vnb_mono {N M : Int} {x : Nd} (h : vnB N x = true) (hm : N ≤ M) : vnB M x = true := by
 unfold vnB at h ⊢
 by_cases h1 : x.op = 1
 ·rw [if_pos h1] at h ⊢
  exact h
 ·rw [if_neg h1] at h ⊢
  by_cases h2 : x.op = 2
  ·rw [if_pos h2] at h ⊢
   simp only [Bool.and_eq_true, decide_eq_true_eq] at h ⊢
   exact ⟨h.1, h.2.1, by omega⟩
  ·rw [if_neg h2] at h ⊢
   exact h
theorem ev_mono {N M : Int} (hm : N ≤ M) : ∀ {t : Ex}, EV N t → EV M t
 | .e0 x, h => ⟨h.1, vnb_mono h.2 hm⟩
 | .e1 x a, h => ⟨⟨h.1.1, vnb_mono h.1.2 hm⟩, ev_mono hm h.2⟩
 | .e2 x a b, h => ⟨⟨h.1.1, vnb_mono h.1.2 hm⟩, ev_mono hm h.2.1, ev_mono hm h.2.2⟩
theorem share_twice (ts : List Ex) : compT (ts ++ ts) [] = ((compT ts []).1, (compT ts []).2 ++ (compT ts []).2) := by
 have h := comp_outs ts (T := (compT ts []).1) (compT ts []).2 (compT_nodup ts List.nodup_nil) (comp_len ts []) (fun i t y hi hy => by
  obtain ⟨k, h1, h2⟩ := comp_rep ts [] i t hi
  rw [h1] at hy
  exact ⟨k, (Option.some.inj hy).symm, h2⟩)
 rw [compT_app, h]
/-- The sum of two expressions. -/
def sumT (a b : Ex) : Ex := .e2 ⟨7, 0, 0, 0⟩ a b
theorem share_sum {ts : List Ex} {i j : Nat} {a b : Ex} (hi : ts[i]? = some a) (hj : ts[j]? = some b) :
  ∃ p q : Nat, (compT ts []).2[i]? = some (p : Int) ∧ (compT ts []).2[j]? = some (q : Int) ∧
   compT (ts ++ [sumT a b]) [] = (emitI (compT ts []).1 ⟨7, p, q, 0, 0⟩, (compT ts []).2 ++ [((idxI (emitI (compT ts []).1 ⟨7, p, q, 0, 0⟩) ⟨7, p, q, 0, 0⟩ : Nat) : Int)]) := by
 obtain ⟨p, hp, rp⟩ := comp_rep ts [] i a hi
 obtain ⟨q, hq, rq⟩ := comp_rep ts [] j b hj
 refine ⟨p, q, hp, hq, ?_⟩
 have hd := compT_nodup ts (T := []) List.nodup_nil
 have ea := rep_emit hd rp
 have eb := rep_emit hd rq
 rw [compT_app]
 simp only [compT, sumT, emitT, ea, eb]
theorem ev_sum {N : Int} {a b : Ex} (ha : EV N a) (hb : EV N b) : EV N (sumT a b) := ⟨⟨by decide, by simp [vnB]⟩, ha, hb⟩
/-- Compiling a system of valid expressions. -/
theorem comp_gen (names : List ByteArray) (ts : List Ex) (C : List Is) (oc : List Int) (m : Nat) (pn : Option Addr) (cn : Nat) (vf : Value) (w : World) (hn : Sx w (.slice pn m cn) names) (hm : names.length = m) (hc : m ≤ cn) (hf : Lx NxO w vf (ts.map pre)) (ht : ts.length = m) (h1 : 1 ≤ m) (h6 : m ≤ 6) (hnm : ∀ s ∈ names, Nm s) (hnd : names.Nodup) (hev : ∀ t ∈ ts, EV (m : Int) t) (h200 : ∀ t ∈ ts, (pre t).length ≤ 200) (hL : C.length ≤ 400) (hR : compT ts [] = (C, oc)) :
  Calls Try.prog 17 #[.agg #[.slice pn m cn, vf]] w fun e w' => ∃ p c q d, e = .returned (.agg #[.int .i64 m, .slice p C.length c, .slice q m d]) ∧ w'.ownsRow w.heap.size 59 5 (.slice p C.length c) C.length (cr encI C) ∧ w'.ownsRow w.heap.size 3 1 (.slice q m d) m (cr enc1 oc) ∧ Below w.heap.size w w' := by
 subst hm
 have hs : SyV names (ts.map pre) := ⟨by rw [List.length_map, ht], h1, h6, hnm, hnd, fun r hr => by
  obtain ⟨t, h, rfl⟩ := List.mem_map.1 hr
  unfold veB
  rw [ve_one (hev t h), Bool.and_true]
  exact decide_eq_true (h200 t h)⟩
 refine (compile_ok pn cn vf names ts w hn hc hf hs (fun t h => (hev t h).ar) (fun t h y hy => nw_of (ev_nodes (hev t h) y hy) (by omega)) (by rw [hR]; exact hL)).mono ?_
 rintro e w' ⟨u, r, rfl, hu, hr, hB⟩
 rw [hR] at hu hr
 rw [ht] at hr ⊢
 obtain ⟨p, c, rfl⟩ := own_cut hu
 obtain ⟨q, d, rfl⟩ := own_cut hr
 have e1 : ∀ oc : List Int, cr enc1 oc = oc.map (fun x => Value.int .i64 x) := by
  intro oc
  induction oc with
  | nil => rfl
  | cons x r ih =>
   show enc1 x ++ cr enc1 r = _
   rw [ih]
   rfl
 exact ⟨p, c, q, d, rfl, hu, by rw [e1 oc]; exact hr, hB⟩
def abc : List ByteArray := [⟨#[97]⟩, ⟨#[98]⟩, ⟨#[99]⟩]
theorem nms_ok {m : Nat} (h : m ≤ 3) (hk : ∀ k, k ≤ 3 → True) : (∀ s ∈ nms.take m ++ abc.take m, Nm s) ∧ (nms.take m ++ abc.take m).Nodup ∧ (nms.take m ++ abc.take m).length = m + m := by
 have hall : ∀ s ∈ nms ++ abc, Nm s := by
  intro s hs
  simp [nms, abc] at hs
  rcases hs with rfl | rfl | rfl | rfl | rfl | rfl
  ·exact nm_one 120 (by decide) (by decide)
  ·exact nm_one 121 (by decide) (by decide)
  ·exact nm_one 122 (by decide) (by decide)
  ·exact nm_one 97 (by decide) (by decide)
  ·exact nm_one 98 (by decide) (by decide)
  ·exact nm_one 99 (by decide) (by decide)
 have hsub : List.Sublist (nms.take m ++ abc.take m) (nms ++ abc) := (List.take_sublist m nms).append (List.take_sublist m abc)
 refine ⟨fun s hs => hall s (hsub.subset hs), List.Nodup.sublist hsub (by simp [nms, abc]), ?_⟩
 rw [List.length_append, nms_len h, List.length_take]
 show m + min m 3 = m + m
 omega
theorem nms_ok1 {m : Nat} (h : m ≤ 3) : (∀ s ∈ nms.take m ++ [⟨#[97]⟩], Nm s) ∧ (nms.take m ++ [(⟨#[97]⟩ : ByteArray)]).Nodup ∧ (nms.take m ++ [(⟨#[97]⟩ : ByteArray)]).length = m + 1 := by
 have hall : ∀ s ∈ nms ++ [⟨#[97]⟩], Nm s := by
  intro s hs
  simp [nms] at hs
  rcases hs with rfl | rfl | rfl | rfl
  ·exact nm_one 120 (by decide) (by decide)
  ·exact nm_one 121 (by decide) (by decide)
  ·exact nm_one 122 (by decide) (by decide)
  ·exact nm_one 97 (by decide) (by decide)
 have hsub : List.Sublist (nms.take m ++ [(⟨#[97]⟩ : ByteArray)]) (nms ++ [⟨#[97]⟩]) := (List.take_sublist m nms).append (List.Sublist.refl _)
 refine ⟨fun s hs => hall s (hsub.subset hs), List.Nodup.sublist hsub (by simp [nms]), ?_⟩
 rw [List.length_append, nms_len h]
 rfl
/-- A row keeps apart from a block of another type. -/
theorem own_apart {W : World} {B n sz X : Nat} {v : Value} {t t' : TypeId} {xs : List Value} {cs : Array Value} {z : Nat × Nat} (h : W.ownsRow B t sz v n xs) (hX : W.heap[X]? = some (.cells cs t' z)) (hne : t ≠ t') : v.ownBlock ≠ some X := by
 intro e
 rcases id h.2 with ⟨rfl, h0⟩ | ⟨g, cap, cur, rfl, _, hh, _⟩
 ·cases e
 ·obtain rfl : g = X := Option.some.inj e
  rw [hX] at hh
  cases hh
  exact hne rfl
section
variable {P : Program}
theorem gT {ops : Array Oper} {ds : List Tmp} {a0 : Act} {w0 : World} {Φ : Tmp → Value → World → Prop} {o : Oper} {j : Nat} (ts : List Tmp) (want : Bool) (u : Tmp) (hg : o.guard = some (j, want)) (hj : ((ops[j]?).bind (·.dst)) = some u) (ht : o.looksAt #[] = ts)
  (h : ∀ (a : Act) (g : Grown w0), seenAll Φ ds a0 a g.w ts → uponP P g.w (meets Φ o.dst) ((execOp a.eval o).run P g.w)) (hin : inL u ds = true := by rfl) (hu : ∀ v w, Φ u v w → v = .bool want := by exact fun v w h => h) : Obl P ops ds a0 w0 Φ o := ob_gtrue ts j want u hg hj ht hin hu h
theorem kO {A : List (Nat × Tmp)} {K : Tmp → Value → Option Nat} {σ : Nat → Bool} {t : Tmp} {v : Value} {i : Nat} (hm : A.all (fun x => !Nat.beq x.2 t || Nat.beq x.1 i) = true) (h : σ i = false) : kA A K σ t v = K t v := kA_of (cons_only hm h)
theorem kN {A : List (Nat × Tmp)} {K : Tmp → Value → Option Nat} {σ : Nat → Bool} {t : Tmp} {v : Value} (hm : A.all (fun x => !Nat.beq x.2 t) = true) : kA A K σ t v = K t v := kA_of (cons_no hm)
theorem ownK {W W' : World} {b0 n sz : Nat} {t : TypeId} {xs : List Value} {v v0 : Value} (hg : W.grownBy W' v0.ownBlock) (hx : ∃ p c B, v = .slice p n c ∧ b0 ≤ B ∧ W.ownsRow B t sz (.slice p n c) n xs) (hne : ∀ b, v0.ownBlock = some b → v.ownBlock ≠ some b) : ∃ p c B, v = .slice p n c ∧ b0 ≤ B ∧ W'.ownsRow B t sz (.slice p n c) n xs := by
 obtain ⟨p, c, B, rfl, hB, ho⟩ := hx
 exact ⟨p, c, B, rfl, hB, kept_h ho hg hne⟩
theorem litK {W W' : World} {b0 : Nat} {o : Obj} {f : Nat → Value} {v v0 : Value} (hg : W.grownBy W' v0.ownBlock) (hx : ∃ X, v = f X ∧ b0 ≤ X ∧ W.heap[X]? = some o) (hne : ∀ X, v = f X → v0.ownBlock ≠ some X) : ∃ X, v = f X ∧ b0 ≤ X ∧ W'.heap[X]? = some o := by
 obtain ⟨X, e, hX, hI⟩ := hx
 exact ⟨X, e, hX, blk_h hI hg (hne X e)⟩
theorem tv1 {w : World} {K : Value → World → Prop} {r : Result Next} {v : Value} (hr : r = .ok (.value v) w) (h : K v w) : uponP P w K r := tupon_value hr (Below.refl _ _) h
end
theorem steady_q (b : Bool) (V : Value) : Steady fun (z : Value) (_ : World) => b = false → z = V := fun u w1 w2 hb h => h
theorem ob_gfalse {P : Program} {ops : Array Oper} {ds : List Tmp} {a0 : Act} {w0 : World} {Φ : Tmp → Value → World → Prop} {o : Oper} (ts : List Tmp) (j : Nat) (want : Bool) (u : Tmp) (hg : o.guard = some (j, want)) (hj : ((ops[j]?).bind (·.dst)) = some u) (ht : o.looksAt #[] = ts)
  (hin : inL u ds = true) (hu : ∀ v w, Φ u v w → v = .bool (!want)) (h0 : ∀ w, meets Φ o.dst undef w) : Obl P ops ds a0 w0 Φ o :=
 ob_guard ts j want u hg hj ht fun a g hs hsu => by
  refine ⟨fun hn => ?_, fun _ => h0 _⟩
  obtain ⟨v, hv, hp⟩ := seen_in hin hsu
  have e := hu v _ hp
  rw [hv, e] at hn
  injection hn with hn
  injection hn with hn
  cases want <;> cases hn
theorem own_empG (W : World) (t : TypeId) (sz : Nat) : (W.alloc (.cells #[] t)).ownsRow W.heap.size t sz (.slice (some ⟨W.heap.size, 0, none⟩) 0 0) 0 [] :=
 ⟨by simp, .inr ⟨W.heap.size, 0, #[], rfl, Nat.le_refl _, World.alloc_heap_new W _, Nat.le_refl _, Nat.zero_le _, by simp, by simp⟩⟩
theorem rx_at' {W : World} {a : Addr} {v : Value} (h : W.cell? a = some v) (g : Grown W) : g.w.cell? a = some v := (grown_belowN g.h).cell h (fun e => by cases e)
theorem size_str (w : World) : (sizeOf (Try.prog.elem 35)).run Try.prog w = .ok 1 w := by simp [go_sem]
theorem strs_one (l : List ByteArray) : ∀ u ∈ cr encS l, u.oneCell' = true := by
 intro u hu
 unfold cr at hu
 obtain ⟨t, _, h⟩ := List.mem_flatMap.1 hu
 simp only [encS, List.mem_cons, List.not_mem_nil, or_false] at h
 subst h
 rfl
theorem strs_len (l : List ByteArray) : (cr encS l).length = l.length := by
 rw [cr_len (enc := encS) (sz := 1) (fun _ => rfl) l, Nat.mul_one]
theorem abc_at {W : World} {X n : Nat} (h : W.heap[X]? = some (.cells #[.string ⟨#[97]⟩, .string ⟨#[98]⟩, .string ⟨#[99]⟩] 9 (0, 0))) {j : Nat} {u : Value} (hj : (cr encS (abc.take n))[j]? = some u) : W.cell? ((⟨X, 0, none⟩ : Addr).add j) = some u := by
 have e : cr encS (abc.take n) = ([.string ⟨#[97]⟩, .string ⟨#[98]⟩, .string ⟨#[99]⟩] : List Value).take n := by
  have : ∀ l : List ByteArray, cr encS l = l.map Value.string := fun l => by
   induction l with
   | nil => rfl
   | cons x r ih =>
    show encS x ++ cr encS r = _
    rw [ih]
    rfl
  rw [this, List.map_take]
  rfl
 rw [e, List.getElem?_take] at hj
 split at hj
 ·rw [add_spot _ _ rfl]
  refine heapN_cellj h ?_
  show (#[_, _, _] : Array Value)[0 + j]? = some u
  rw [Nat.zero_add]
  simpa using hj
 ·cases hj
theorem a_at {W : World} {X : Nat} {t : TypeId} {v : Value} (h : W.heap[X]? = some (.cells #[v] t (0, 0))) {j : Nat} {u : Value} (hj : ([v] : List Value)[j]? = some u) : W.cell? ((⟨X, 0, none⟩ : Addr).add j) = some u := by
 rw [add_spot _ _ rfl]
 refine heapN_cellj h ?_
 show (#[_] : Array Value)[0 + j]? = some u
 rw [Nat.zero_add]
 simpa using hj
/-- The values of a row of rows. -/
theorem lx_us {W : World} {p : Option Addr} {n c : Nat} {l : List (List Nd)} (h : Lx NxO W (.slice p n c) l) (hn : 1 ≤ n) : ∃ (a : Addr) (us : List Value), p = some a ∧ l.length = n ∧ us.length = n ∧ (∀ (j : Nat) (u : Value), us[j]? = some u → W.cell? (a.add j) = some u) ∧ (∀ u ∈ us, u.oneCell' = true) ∧ ∀ (k : Nat) (u : Value) (x : List Nd), us[k]? = some u → l[k]? = some x → NxO W u x := by
 obtain ⟨hm, q, cap, e, hel⟩ := h
 simp only [Value.slice.injEq] at e
 obtain ⟨rfl, rfl, rfl⟩ := e
 obtain ⟨x0, hx0⟩ : ∃ x, l[0]? = some x := ⟨_, List.getElem?_eq_getElem (by omega)⟩
 obtain ⟨b, o, u0, hp, _⟩ := hel 0 x0 hx0
 subst hp
 have key : ∀ (k : Nat) (x : List Nd), l[k]? = some x → W.cell? ⟨b, o + k, none⟩ = some ((W.cell? ⟨b, o + k, none⟩).getD undef) ∧ NxO W ((W.cell? ⟨b, o + k, none⟩).getD undef) x := fun k x hx => by
  obtain ⟨b', o', u, hp, h1, h2, h3⟩ := hel k x hx
  simp only [Option.some.injEq, Addr.mk.injEq, and_true] at hp
  obtain ⟨rfl, rfl⟩ := hp
  rw [h2]
  exact ⟨rfl, h3⟩
 have at_ : ∀ (j : Nat) (u : Value), ((List.range l.length).map fun k => (W.cell? ⟨b, o + k, none⟩).getD undef)[j]? = some u → j < l.length ∧ u = (W.cell? ⟨b, o + j, none⟩).getD undef := fun j u hj => by
  rw [List.getElem?_map] at hj
  by_cases hlt : j < l.length
  ·rw [List.getElem?_range hlt] at hj
   exact ⟨hlt, (Option.some.inj hj).symm⟩
  ·rw [List.getElem?_eq_none (by simp; omega)] at hj
   cases hj
 refine ⟨⟨b, o, none⟩, (List.range l.length).map fun k => (W.cell? ⟨b, o + k, none⟩).getD undef, rfl, rfl, by simp, fun j u hj => ?_, fun u hu => ?_, fun k u x hu hx => ?_⟩
 ·obtain ⟨hlt, rfl⟩ := at_ j u hj
  rw [add_spot _ _ rfl]
  exact (key j _ (List.getElem?_eq_getElem hlt)).1
 ·obtain ⟨j, hj⟩ := List.getElem?_of_mem hu
  obtain ⟨hlt, rfl⟩ := at_ j u hj
  have := (key j _ (List.getElem?_eq_getElem hlt)).2
  obtain ⟨p', c', e, _⟩ := this.1.2
  rw [e]
  rfl
 ·obtain ⟨hlt, rfl⟩ := at_ k u hu
  exact (key k x hx).2
/-- A slice of as many elements as its list has. -/
theorem rx_n {α : Type} {enc : α → List Value} {sz : Nat} {w : World} {p : Option Addr} {n c : Nat} {l : List α} (h : Rx enc sz w (.slice p n c) l) : l.length = n := by
 obtain ⟨_, p', c', e, _⟩ := h
 simp only [Value.slice.injEq] at e
 exact e.2.1.symm
set_option maxHeartbeats 64000000 in
theorem tshare (w : World) (vL vO vX : Value) (n0 lo hi : Int) (Lr : List Is) (outr : List Int) (Xr : List (Int × Int)) (hL : Ix w vL Lr ∧ ∀ x ∈ Lr, IW x) (hO : Px w vO outr ∧ ∀ x ∈ outr, W64 x) (hX : Vx w vX Xr ∧ ∀ q ∈ Xr, W64 q.1 ∧ W64 q.2) (hn : W64 n0) (hlo : W64 lo) (hhi : W64 hi) :
  Calls Try.prog 8 #[.agg #[.int .i64 n0, vL, vO, vX, .int .i64 lo, .int .i64 hi]] w fun e w' => e = .returned (.bool true) ∧ Below w.heap.size w w' := by
 obtain ⟨pl, cl, rfl⟩ := hL.1.cut
 obtain ⟨po, co, rfl⟩ := hO.1.cut
 obtain ⟨px, cx, rfl⟩ := hX.1.cut
 have hE : Below w.heap.size w (w.alloc (.cells #[.int .i64 n0, .slice pl Lr.length cl, .slice po outr.length co, .slice px Xr.length cx, .int .i64 lo, .int .i64 hi] 30)) := (Below.refl _ _).alloc (Nat.le_refl _) _
 have HQ := Lib.hid (show Blk (w.alloc (.cells #[.int .i64 n0, .slice pl Lr.length cl, .slice po outr.length co, .slice px Xr.length cx, .int .i64 lo, .int .i64 hi] 30)) w.heap.size (.cells #[.int .i64 n0, .slice pl Lr.length cl, .slice po outr.length co, .slice px Xr.length cx, .int .i64 lo, .int .i64 hi] 30) from World.alloc_heap_new w _)
 have HL := Lib.hid (hL.1.grow hE)
 have HO := Lib.hid (hO.1.grow hE)
 have HW := Lib.hid hE
 clear hE hL hO hX hn hlo hhi
 go_enter Try.func8, Try.ntmps8
 go_wp2_with (fail)
 refine (sanity8 _).mono ?_
 rintro e w1 ⟨rfl, hB⟩
 have HQ := Lib.hid (HQ.out.grow hB)
 have HL := Lib.hid (HL.out.grow hB)
 have HO := Lib.hid (HO.out.grow hB)
 have HW := Lib.hid (below_then HW.out hB)
 clear hB
 have q0 := heapN_cellj HQ.out (k := 0) rfl
 have q1 := heapN_cellj HQ.out (k := 1) rfl
 have q2 := heapN_cellj HQ.out (k := 2) rfl
 go_wp2_with (fail)
 refine (made8_ok n0 _ _ Lr outr 25 _ HL.out HO.out (by decide) (by decide)).mono ?_
 rintro e w2 ⟨N, T, O, u, r, rfl, hu, hr, htv, hN3, hT1, hT25, hB⟩
 have HTV := Lib.hid htv
 obtain ⟨hn1, hn6, h400, hon, hvl, hout⟩ := tv_cases htv
 obtain ⟨m, hm⟩ : ∃ m, O.length = m := ⟨_, rfl⟩
 have hNm : N = m := by omega
 subst hNm
 have HM := Lib.hid hm
 have HV := Lib.hid (show VL N T from hvl)
 have HOUT := Lib.hid hout
 have HUT := Lib.hid (Rx.own encI_len hu (by unfold maxLen; omega))
 have HRO := Lib.hid (Rx.own (enc := enc1) (fun _ => rfl) hr (by unfold maxLen; omega))
 have HW := Lib.hid (below_then HW.out hB)
 clear hB hu hr htv q0 q1 q2 HQ HL HO hon hm hn6 h400 hvl hout
 go_wp2_with (fail)
 refine (system_ok N u r T O _ HUT.out HRO.out HTV.out (by omega)).mono ?_
 rintro e w3 ⟨pn, cn, vf, rfl, hsx, hcn, hlx, hB⟩
 obtain ⟨pf, cf, hvf⟩ := hlx.cut
 rw [List.length_map, HM.out] at hvf
 subst hvf
 have hcf := cmpF HTV.out (by omega)
 have hev := sys_ev HV.out HOUT.out
 have h200 : ∀ t ∈ O.map (sysT T), (pre t).length ≤ 200 := fun t ht => by
  obtain ⟨y, _, rfl⟩ := List.mem_map.1 ht
  exact sys_200 y
 rw [sys_rows HV.out HOUT.out] at hlx
 have htl : (O.map (sysT T)).length = N := by rw [List.length_map, HM.out]
 obtain ⟨⟨C, oc⟩, hC⟩ : ∃ R, compT (O.map (sysT T)) [] = R := ⟨_, rfl⟩
 rw [hC] at hcf
 rw [HM.out] at hcf hsx hcn ⊢
 dsimp only at hcf
 obtain ⟨ts, hts⟩ : ∃ ts, O.map (sysT T) = ts := ⟨_, rfl⟩
 rw [hts] at hlx hev h200 htl hC
 have HCF := Lib.hid hcf
 have HEV := Lib.hid hev
 have H200 := Lib.hid h200
 have HTL := Lib.hid htl
 have HCE := Lib.hid hC
 have hN1 : 1 ≤ N := by omega
 have hCl : C.length ≤ 26 := by have := hcf.len; omega
 have KC := Lib.hid (fun w a b => comp_gen (nms.take N) ts C oc N pn cn (.slice pf N cf) w a (nms_len hN3) hcn b HTL.out hN1 (by omega) (fun s hs => (nms_ok hN3 (fun _ _ => trivial)).1 s (List.mem_append_left _ hs)) (List.Nodup.sublist (List.sublist_append_left _ (abc.take N)) (nms_ok hN3 (fun _ _ => trivial)).2.1) HEV.out H200.out (by omega) HCE.out)
 have hS : Below w3.heap.size w3 (w3.alloc (.cells #[.slice pn N cn, .slice pf N cf] 38)) := (Below.refl _ _).alloc (Nat.le_refl _) _
 have HS := Lib.hid (show Blk (w3.alloc (.cells #[.slice pn N cn, .slice pf N cf] 38)) w3.heap.size (.cells #[.slice pn N cn, .slice pf N cf] 38) from World.alloc_heap_new w3 _)
 have HSX := Lib.hid (hsx.grow hS)
 have HLX := Lib.hid (hlx.grow grows_nxo hS)
 have HW := Lib.hid (below_then (below_then HW.out hB) hS)
 clear hB hS hsx hlx hcf hC HUT HRO hev h200 htl hts HV HOUT
 go_wp2_with (fail)
 generalize hWc : World.alloc w3 _ = W5 at *
 clear hWc
 have s0 := fun g : Grown W5 => heapN_cellj (HS.out.grow g.h) (k := 0) rfl
 have s1 := fun g : Grown W5 => heapN_cellj (HS.out.grow g.h) (k := 1) rfl
 refine region_pred_h (fun σ_ => lk [(18, fun z_ _ => z_ = .agg #[.slice pn N cn, .slice pf N cf]), (19, fun z_ w' => ∃ p_ c_ q_ d_, z_ = .agg #[.int .i64 N, .slice p_ C.length c_, .slice q_ N d_] ∧ w'.ownsRow W5.heap.size 59 5 (.slice p_ C.length c_) C.length (cr encI C) ∧ w'.ownsRow W5.heap.size 3 1 (.slice q_ N d_) N (cr enc1 oc)), (20, fun z_ _ => z_ = .pointer (some ⟨w3.heap.size, 1, none⟩)), (21, fun z_ _ => z_ = .slice pf N cf), (22, fun z_ _ => z_ = .int .i64 N), (5, fun z_ w' => ∃ X_, z_ = .pointer (some ⟨X_, 0, none⟩) ∧ W5.heap.size ≤ X_ ∧ (if σ_ 6 = true then (∃ p_ c_ q_ d_, w'.heap[X_]? = some (.cells #[.int .i64 N, .slice p_ C.length c_, .slice q_ N d_] 25 (0, 0)) ∧ w'.ownsRow W5.heap.size 59 5 (.slice p_ C.length c_) C.length (cr encI C) ∧ w'.ownsRow W5.heap.size 3 1 (.slice q_ N d_) N (cr enc1 oc)) else w'.heap[X_]? = some (.cells #[(.int .i64 0), (.slice none 0 0), (.slice none 0 0)] 25 (0, 0)))), (6, fun z_ _ => z_ = .int .i64 N)]) (kk [(5, ptrK)]) [(6, 5)] [] 100 [] (by kernel_rfl) (by kernel_rfl) (by intro x hx; cases hx) (fun σ_ => lk_steady _ ⟨steady_eq _, fun u w1 w2 hb ⟨p, c, q, d, e, h1, h2⟩ => ⟨p, c, q, d, e, own_keptN h1 hb, own_keptN h2 hb⟩, steady_eq _, steady_eq _, steady_eq _, fun u w1 w2 hb ⟨X, e, h1, h2⟩ => ⟨X, e, h1, iteD h2 (fun ⟨p, c, q, d, h3, h4, h5⟩ => ⟨p, c, q, d, (hb.block X (Array.getElem?_eq_some_iff.1 h3).1).trans h3, own_keptN h4 hb, own_keptN h5 hb⟩) (fun h => (hb.block X (Array.getElem?_eq_some_iff.1 h).1).trans h)⟩, steady_eq _, trivial⟩) ?_ ?_ ?_ (by intro i p os hm; cases hm) ?_
 ·intro σ_ t v w b h hb
  refine kk_lt (fun x hx e hl hb => ?_) h (kA_le hb)
  simp only [List.mem_cons, List.not_mem_nil, or_false] at hx
  subst hx
  subst e
  obtain ⟨X, rfl, hX, hI⟩ := hl
  obtain rfl : X = b := Option.some.inj hb
  exact iteE hI (fun ⟨p, c, q, d, h3, _⟩ => (Array.getElem?_eq_some_iff.1 h3).1) (fun h => (Array.getElem?_eq_some_iff.1 h).1)
 ·refine ⟨?_, ?_, ?_, ?_, ?_, ?_, ?_, ?_, trivial⟩
  ·intro _ _ _ σ_ hσ
   refine oblg_of (ob_plain [4] rfl rfl fun aa g h => ?_) (fun d v hd => by cases hd; rfl)
   have yy0 := seen_out (v := .pointer (some ⟨w3.heap.size, 0, none⟩)) rfl rfl h.1
   have ee0 := getD_of yy0
   exact tupon_value (v := .agg #[.slice pn N cn, .slice pf N cf]) (by simp [go_sem, ee0, yy0, s0 g, s1 g]) (Below.refl _ _) rfl
  ·intro _ _ _ σ_ hσ
   refine oblg_of (ob_plain [18] rfl rfl fun aa g h => ?_) (fun d v hd => by cases hd; rfl)
   obtain ⟨_, yy0, rfl⟩ := seen_in rfl h.1
   have ee0 := getD_of yy0
   refine tupon_enter (f := 17) (args := #[.agg #[.slice pn N cn, .slice pf N cf]]) (by simp [go_sem, ee0, yy0]) rfl ?_
   exact (KC.out g.w (HSX.out.grow g.h) (HLX.out.grow grows_nxo g.h)).mono fun e w' ⟨p, c, q, d, he, h1, h2, hB⟩ => ⟨_, he, hB, ⟨p, c, q, d, rfl, own_base h1 g.h.size, own_base h2 g.h.size⟩⟩
  ·intro _ _ _ σ_ hσ
   refine oblg_of (ob_plain [4] rfl rfl fun aa g h => ?_) (fun d v hd => by cases hd; rfl)
   have yy0 := seen_out (v := .pointer (some ⟨w3.heap.size, 0, none⟩)) rfl rfl h.1
   have ee0 := getD_of yy0
   exact tupon_value (v := .pointer (some ⟨w3.heap.size, 1, none⟩)) (by simp [go_sem, ee0, yy0]) (Below.refl _ _) rfl
  ·intro _ _ _ σ_ hσ
   refine oblg_of (ob_plain [20] rfl rfl fun aa g h => ?_) (fun d v hd => by cases hd; rfl)
   obtain ⟨_, yy0, rfl⟩ := seen_in rfl h.1
   have ee0 := getD_of yy0
   exact tupon_value (v := .slice pf N cf) (by simp [go_sem, ee0, yy0, s1 g]) (Below.refl _ _) rfl
  ·intro _ _ _ σ_ hσ
   refine oblg_of (ob_plain [21] rfl rfl fun aa g h => ?_) (fun d v hd => by cases hd; rfl)
   obtain ⟨_, yy0, rfl⟩ := seen_in rfl h.1
   have ee0 := getD_of yy0
   exact tupon_value (v := .int .i64 N) (by simp [go_sem, ee0, yy0]) (Below.refl _ _) rfl
  ·intro _ _ _ σ_ hσ
   have hsx : σ_ 6 = false := by
    cases e : σ_ 6 with
    | false => rfl
    | true => exact absurd (hσ 6 _ e rfl) (by first | decide | decide +kernel)
   refine oblg_plain [] rfl rfl fun aa g h => ?_
   exact tupon_value (v := .pointer (some ⟨g.w.heap.size, 0, none⟩)) (w1 := g.w.alloc (.cells #[(.int .i64 0), (.slice none 0 0), (.slice none 0 0)] 25)) (by simp [go_sem]) ((Below.refl _ _).alloc (Nat.le_refl _) _) ⟨⟨_, rfl, g.h.size, by rw [if_neg (by rw [hsx]; exact Bool.false_ne_true)]; exact World.alloc_heap_new _ _⟩, fun d b hd hb => by cases hd; obtain rfl := Option.some.inj hb; exact Nat.le_refl _⟩
  ·exact fun h => absurd h (by decide)
  ·intro _ _ _ σ_ hσ
   refine oblg_of (ob_plain [22] rfl rfl fun aa g h => ?_) (fun d v hd => by cases hd; rfl)
   obtain ⟨_, yy0, rfl⟩ := seen_in rfl h.1
   have ee0 := getD_of yy0
   exact tupon_value (v := .int .i64 N) (by simp [go_sem, ee0, yy0]) (Below.refl _ _) rfl
 ·intro i p os hm hos
  simp only [List.mem_cons, List.not_mem_nil, or_false, Prod.mk.injEq] at hm
  obtain ⟨rfl, rfl⟩ := hm
  obtain rfl := Option.some.inj hos
  intro σ_ aa gg hσ h
  obtain ⟨_, r0, X, rfl, hX, hI⟩ := seen_in rfl h.1
  have e0 := getD_of r0
  obtain ⟨_, r1, p1, c1, p2, c2, rfl, ho1, ho2⟩ := seen_in rfl h.2.1
  have e1 := getD_of r1
  rw [if_neg (by rw [hσ]; exact Bool.false_ne_true)] at hI
  have q0 := heapN_cellj hI (k := 0) rfl
  have z0 : gg.w.frozen? ⟨X, 0, none⟩ = false := by simp [World.frozen?, hI]
  have q1 := heapN_cellj hI (k := 1) rfl
  have z1 : gg.w.frozen? ⟨X, 1, none⟩ = false := by simp [World.frozen?, hI]
  have q2 := heapN_cellj hI (k := 2) rfl
  have z2 : gg.w.frozen? ⟨X, 2, none⟩ = false := by simp [World.frozen?, hI]
  refine ⟨(((gg.w.setCell ⟨X, 0, none⟩ (.int .i64 N)).setCell ⟨X, 1, none⟩ (.slice p1 C.length c1)).setCell ⟨X, 2, none⟩ (.slice p2 N c2)), by simp [go_sem, e0, r0, e1, r1, q0, z0, q1, z1, q2, z2], (((gg.h.setCell (p := ⟨X, 0, none⟩) hX _).setCell (p := ⟨X, 1, none⟩) hX _).setCell (p := ⟨X, 2, none⟩) hX _), fun t v hv hne hΦ => lk_pair ?_ hΦ⟩
  have kp1 := ((ho1.kept (grownBy_setN _ ⟨X, 0, none⟩ (.int .i64 N)) (.inr (own_apart ho1 hI (by decide)))).kept (grownBy_setN _ ⟨X, 1, none⟩ (.slice p1 C.length c1)) (.inr (own_apart ho1 hI (by decide)))).kept (grownBy_setN _ ⟨X, 2, none⟩ (.slice p2 N c2)) (.inr (own_apart ho1 hI (by decide)))
  have kp2 := ((ho2.kept (grownBy_setN _ ⟨X, 0, none⟩ (.int .i64 N)) (.inr (own_apart ho2 hI (by decide)))).kept (grownBy_setN _ ⟨X, 1, none⟩ (.slice p1 C.length c1)) (.inr (own_apart ho2 hI (by decide)))).kept (grownBy_setN _ ⟨X, 2, none⟩ (.slice p2 N c2)) (.inr (own_apart ho2 hI (by decide)))
  refine ⟨rfl, fun _ h => h, rfl, ?_, rfl, fun _ h => h, rfl, fun _ h => h, rfl, fun _ h => h, rfl, ?_, rfl, fun _ h => h, trivial⟩
  ·intro e hx
   subst e
   rw [r1] at hv
   have e := Option.some.inj hv
   subst e
   exact ⟨p1, c1, p2, c2, rfl, kp1, kp2⟩
  ·intro e hx
   subst e
   rw [r0] at hv
   have e := Option.some.inj hv
   subst e
   exact ⟨X, rfl, hX, by rw [if_pos (updS_self _ _)]; exact ⟨p1, c1, p2, c2, cellsT_setN (o := 2) (u := .slice p2 N c2) (cellsT_setN (o := 1) (u := .slice p1 C.length c1) (cellsT_setN (o := 0) (u := .int .i64 N) hI)), kp1, kp2⟩⟩
 rintro w6 hB6 _ rfl _ ⟨p19, c19, q19, d19, rfl, -⟩ _ rfl _ rfl _ rfl _ ⟨X5, rfl, hX5, hI5⟩ _ rfl
 simp only [Act.put, List.setIfInBounds_toArray, List.set_cons_succ, List.set_cons_zero, List.filterMap_nil, finP]
 intro hdis hcp
 refine endQ_none rfl ?_
 obtain ⟨p1, c1, p2, c2, hI5, ho1, ho2⟩ := iteT hI5
 have HC5 := Lib.hid (show Blk w6 X5 (.cells #[.int .i64 N, .slice p1 C.length c1, .slice p2 N c2] 25) from hI5)
 have hol : oc.length = N := HCF.out.ol
 have HIC := Lib.hid (Rx.own encI_len ho1 (by unfold maxLen; omega))
 have hpc : Px w6 (.slice p2 N c2) oc := by
  have h := ho2
  rw [← hol] at h
  have := Rx.own (enc := enc1) (fun _ => rfl) h (by unfold maxLen; omega)
  rw [hol] at this
  exact this
 have HPC := Lib.hid hpc
 have HOL := Lib.hid hol
 have HS := Lib.hid (HS.out.grow hB6)
 have HSX := Lib.hid (HSX.out.grow hB6)
 have HLX := Lib.hid (HLX.out.grow grows_nxo hB6)
 have HW := Lib.hid (below_then HW.out hB6)
 obtain ⟨af, us, rfl, hul, huN, hcU, hoU, hxU⟩ := lx_us HLX.out hN1
 obtain ⟨hnN, hcN⟩ := rx_news (enc := encS) (sz := 1) (fun _ => rfl) (l := nms.take N) (by have h := HSX.out; rw [nms_len hN3]; exact h)
 have hnN' : pn = none → N = 0 ∧ cn = 0 := fun e => by
  have h := hnN e
  have := nms_len hN3
  rw [h] at this
  exact absurd this (by show ¬ (0 = N); omega)
 have hXU := Lib.hid hxU
 have HUN := Lib.hid huN
 clear hdis hcp hI5 hX5 ho1 ho2 hol hpc KC s0 s1 hB6 hnN hxU hul
 go_wp2_with (fail)
 obtain ⟨is0, his, hss0, hss1, hss2⟩ := info_parts info_str
 obtain ⟨in0, hin, hns0, hns1, hns2⟩ := info_parts info_ns
 have s0 := fun g : Grown w6 => heapN_cellj (HS.out.grow g.h) (k := 0) rfl
 have s1 := fun g : Grown w6 => heapN_cellj (HS.out.grow g.h) (k := 1) rfl
 refine region_pred_h (fun σ_ => lk [(23, fun z_ w' => if σ_ 3 = true then True else ∃ p_ c_ B_, z_ = .slice p_ (0) c_ ∧ w6.heap.size ≤ B_ ∧ w'.ownsRow B_ 9 1 (.slice p_ (0) c_) (0) ([])), (24, fun z_ _ => z_ = .pointer (some ⟨w3.heap.size, 0, none⟩)), (25, fun z_ _ => z_ = .slice pn N cn), (26, fun z_ w' => if σ_ 7 = true then True else (σ_ 3 = true ∧ True) ∧ ∃ p_ c_ B_, z_ = .slice p_ (0 + N) c_ ∧ w6.heap.size ≤ B_ ∧ w'.ownsRow B_ 9 1 (.slice p_ (0 + N) c_) (0 + N) ([] ++ cr encS (nms.take N))), (27, fun z_ w' => if σ_ 6 = true then True else ∃ X_, z_ = .slice (some ⟨X_, 0, none⟩) 3 3 ∧ w6.heap.size ≤ X_ ∧ w'.heap[X_]? = some (.cells #[.string ⟨#[97]⟩, .string ⟨#[98]⟩, .string ⟨#[99]⟩] 9 (0, 0))), (28, fun z_ _ => z_ = .int .i64 N), (29, fun z_ w' => (σ_ 6 = true ∧ True) ∧ ∃ X_, z_ = .slice (some ⟨X_, 0, none⟩) N 3 ∧ w6.heap.size ≤ X_ ∧ w'.heap[X_]? = some (.cells #[.string ⟨#[97]⟩, .string ⟨#[98]⟩, .string ⟨#[99]⟩] 9 (0, 0))), (30, fun z_ w' => (σ_ 3 = true ∧ σ_ 6 = true ∧ σ_ 7 = true ∧ True) ∧ ∃ p_ c_ B_, z_ = .slice p_ (0 + N + N) c_ ∧ w6.heap.size ≤ B_ ∧ w'.ownsRow B_ 9 1 (.slice p_ (0 + N + N) c_) (0 + N + N) ([] ++ cr encS (nms.take N) ++ cr encS (abc.take N))), (31, fun z_ w' => if σ_ 11 = true then True else ∃ p_ c_ B_, z_ = .slice p_ (0) c_ ∧ w6.heap.size ≤ B_ ∧ w'.ownsRow B_ 54 1 (.slice p_ (0) c_) (0) ([])), (32, fun z_ _ => z_ = .pointer (some ⟨w3.heap.size, 1, none⟩)), (33, fun z_ _ => z_ = .slice (some af) N cf), (34, fun z_ w' => if σ_ 14 = true then True else (σ_ 11 = true ∧ True) ∧ ∃ p_ c_ B_, z_ = .slice p_ (0 + N) c_ ∧ w6.heap.size ≤ B_ ∧ w'.ownsRow B_ 54 1 (.slice p_ (0 + N) c_) (0 + N) ([] ++ us)), (35, fun z_ _ => z_ = .pointer (some ⟨w3.heap.size, 1, none⟩)), (36, fun z_ _ => z_ = .slice (some af) N cf), (37, fun z_ w' => (σ_ 11 = true ∧ σ_ 14 = true ∧ True) ∧ ∃ p_ c_ B_, z_ = .slice p_ (0 + N + N) c_ ∧ w6.heap.size ≤ B_ ∧ w'.ownsRow B_ 54 1 (.slice p_ (0 + N + N) c_) (0 + N + N) ([] ++ us ++ us)), (38, fun z_ w' => (σ_ 3 = true ∧ σ_ 6 = true ∧ σ_ 7 = true ∧ σ_ 11 = true ∧ σ_ 14 = true ∧ True) ∧ ∃ p_ c_ q_ d_, z_ = .agg #[.slice p_ (0 + N + N) c_, .slice q_ (0 + N + N) d_] ∧ w'.ownsRow w6.heap.size 9 1 (.slice p_ (0 + N + N) c_) (0 + N + N) ([] ++ cr encS (nms.take N) ++ cr encS (abc.take N)) ∧ w'.ownsRow w6.heap.size 54 1 (.slice q_ (0 + N + N) d_) (0 + N + N) ([] ++ us ++ us)), (7, fun z_ w' => ∃ X_, z_ = .pointer (some ⟨X_, 0, none⟩) ∧ w6.heap.size ≤ X_ ∧ w'.heap[X_]? = some (.cells #[(.slice none 0 0), (.slice none 0 0)] 38 (0, 0)))]) (kk [(23, Value.ownBlock), (26, Value.ownBlock), (27, Value.ownBlock), (29, Value.ownBlock), (30, Value.ownBlock), (31, Value.ownBlock), (34, Value.ownBlock), (37, Value.ownBlock), (7, ptrK)]) [] [(3, 23), (6, 27), (7, 26), (11, 31), (14, 34)] 17 [] (by kernel_rfl) (by kernel_rfl) (by intro x hx; cases hx) (fun σ_ => lk_steady _ ⟨fun u w1 w2 hb h => ifN (fun _ ⟨p, c, B, e, h1, h2⟩ => ⟨p, c, B, e, h1, own_keptN h2 hb⟩) h, steady_eq _, steady_eq _, fun u w1 w2 hb h => ifN (fun _ ⟨hfl, p, c, B, e, h1, h2⟩ => ⟨hfl, p, c, B, e, h1, own_keptN h2 hb⟩) h, fun u w1 w2 hb h => ifN (fun _ ⟨X, e, h1, h2⟩ => ⟨X, e, h1, (hb.block X (Array.getElem?_eq_some_iff.1 h2).1).trans h2⟩) h, steady_eq _, fun u w1 w2 hb ⟨hfl, X, e, h1, h2⟩ => ⟨hfl, X, e, h1, (hb.block X (Array.getElem?_eq_some_iff.1 h2).1).trans h2⟩, fun u w1 w2 hb ⟨hfl, p, c, B, e, h1, h2⟩ => ⟨hfl, p, c, B, e, h1, own_keptN h2 hb⟩, fun u w1 w2 hb h => ifN (fun _ ⟨p, c, B, e, h1, h2⟩ => ⟨p, c, B, e, h1, own_keptN h2 hb⟩) h, steady_eq _, steady_eq _, fun u w1 w2 hb h => ifN (fun _ ⟨hfl, p, c, B, e, h1, h2⟩ => ⟨hfl, p, c, B, e, h1, own_keptN h2 hb⟩) h, steady_eq _, steady_eq _, fun u w1 w2 hb ⟨hfl, p, c, B, e, h1, h2⟩ => ⟨hfl, p, c, B, e, h1, own_keptN h2 hb⟩, fun u w1 w2 hb ⟨hfl, p, c, q, d, e, h1, h2⟩ => ⟨hfl, p, c, q, d, e, own_keptN h1 hb, own_keptN h2 hb⟩, fun u w1 w2 hb ⟨X, e, h1, h2⟩ => ⟨X, e, h1, (hb.block X (Array.getElem?_eq_some_iff.1 h2).1).trans h2⟩, trivial⟩) ?_ ?_ (by intro i p os hm; cases hm) ?_ ?_
 ·intro σ_ t v w b h hb
  have hf := kA_free hb
  refine kk_lt (fun x hx e hl hb2 => ?_) h (kA_le hb)
  simp only [List.mem_cons, List.not_mem_nil, or_false] at hx
  rcases hx with rfl | rfl | rfl | rfl | rfl | rfl | rfl | rfl | rfl
  ·subst e; obtain ⟨p, c, B, rfl, hB, ho⟩ := (ifF (not_cons (i := 3) hf (by decide)) hl); exact (ho.lt b hb2).2
  ·subst e; obtain ⟨⟨hf3, -⟩, p, c, B, rfl, hB, ho⟩ := (ifF (not_cons (i := 7) hf (by decide)) hl); exact (ho.lt b hb2).2
  ·subst e; obtain ⟨X, rfl, hX, hI⟩ := (ifF (not_cons (i := 6) hf (by decide)) hl); obtain rfl : X = b := Option.some.inj hb2; exact (Array.getElem?_eq_some_iff.1 hI).1
  ·subst e; obtain ⟨⟨hf6, -⟩, X, rfl, hX, hI⟩ := hl; obtain rfl : X = b := Option.some.inj hb2; exact (Array.getElem?_eq_some_iff.1 hI).1
  ·subst e; obtain ⟨⟨hf3, hf6, hf7, -⟩, p, c, B, rfl, hB, ho⟩ := hl; exact (ho.lt b hb2).2
  ·subst e; obtain ⟨p, c, B, rfl, hB, ho⟩ := (ifF (not_cons (i := 11) hf (by decide)) hl); exact (ho.lt b hb2).2
  ·subst e; obtain ⟨⟨hf11, -⟩, p, c, B, rfl, hB, ho⟩ := (ifF (not_cons (i := 14) hf (by decide)) hl); exact (ho.lt b hb2).2
  ·subst e; obtain ⟨⟨hf11, hf14, -⟩, p, c, B, rfl, hB, ho⟩ := hl; exact (ho.lt b hb2).2
  ·subst e; obtain ⟨X, rfl, hX, hI⟩ := hl; obtain rfl : X = b := Option.some.inj hb2; exact (Array.getElem?_eq_some_iff.1 hI).1
 ·refine ⟨?_, ?_, ?_, ?_, ?_, ?_, ?_, ?_, ?_, ?_, ?_, ?_, ?_, ?_, ?_, ?_, ?_, ?_, trivial⟩
  ·exact fun _ _ _ σ_ hσ => oblg_plain [] rfl rfl fun aa g h => by exact tupon_value (v := .slice (some ⟨g.w.heap.size, 0, none⟩) 0 0) (w1 := g.w.alloc (.cells #[] 9)) (by simp [go_sem]) ((Below.refl _ _).alloc (Nat.le_refl _) _) ⟨(ifI ⟨_, _, _, rfl, g.h.size, own_empG _ 9 1⟩), fun d b hd hb => by cases hd; obtain rfl := Option.some.inj hb; exact Nat.le_refl _⟩
  ·exact fun _ _ _ σ_ hσ => oblg_of (ob_plain [4] rfl rfl fun _ g h => by have y0 := seen_out rfl rfl h.1; exact tv1 (by simp [go_sem, y0]) rfl) fun d v hd => by cases hd; rfl
  ·exact fun _ _ _ σ_ hσ => oblg_of (ob_plain [24] rfl rfl fun _ g h => by obtain ⟨_, y0, rfl⟩ := seen_in rfl h.1; exact tv1 (by simp [go_sem, y0, s0 g]) rfl) fun d v hd => by cases hd; rfl
  ·exact fun _ h => absurd h (by decide)
  ·exact fun _ _ _ σ_ hσ => oblg_plain [] rfl rfl fun aa g h => by exact tupon_value (v := .slice (some ⟨g.w.heap.size, 0, none⟩) 3 3) (w1 := g.w.alloc (.cells #[.string ⟨#[97]⟩, .string ⟨#[98]⟩, .string ⟨#[99]⟩] 9)) (by simp [go_sem]) ((Below.refl _ _).alloc (Nat.le_refl _) _) ⟨(ifI ⟨_, rfl, g.h.size, World.alloc_heap_new _ _⟩), fun d b hd hb => by cases hd; obtain rfl := Option.some.inj hb; exact Nat.le_refl _⟩
  ·exact fun _ _ _ σ_ hσ => oblg_of (ob_plain [6] rfl rfl fun _ g h => by have y0 := seen_out rfl rfl h.1; exact tv1 (by simp [go_sem, y0]) rfl) fun d v hd => by cases hd; rfl
  ·exact fun _ h => absurd h (by decide)
  ·exact fun _ h => absurd h (by decide)
  ·exact fun _ _ _ σ_ hσ => oblg_plain [] rfl rfl fun aa g h => by exact tupon_value (v := .slice (some ⟨g.w.heap.size, 0, none⟩) 0 0) (w1 := g.w.alloc (.cells #[] 54)) (by simp [go_sem]) ((Below.refl _ _).alloc (Nat.le_refl _) _) ⟨(ifI ⟨_, _, _, rfl, g.h.size, own_empG _ 54 1⟩), fun d b hd hb => by cases hd; obtain rfl := Option.some.inj hb; exact Nat.le_refl _⟩
  ·exact fun _ _ _ σ_ hσ => oblg_of (ob_plain [4] rfl rfl fun _ g h => by have y0 := seen_out rfl rfl h.1; exact tv1 (by simp [go_sem, y0]) rfl) fun d v hd => by cases hd; rfl
  ·exact fun _ _ _ σ_ hσ => oblg_of (ob_plain [32] rfl rfl fun _ g h => by obtain ⟨_, y0, rfl⟩ := seen_in rfl h.1; exact tv1 (by simp [go_sem, y0, s1 g]) rfl) fun d v hd => by cases hd; rfl
  ·exact fun _ h => absurd h (by decide)
  ·exact fun _ _ _ σ_ hσ => oblg_of (ob_plain [4] rfl rfl fun _ g h => by have y0 := seen_out rfl rfl h.1; exact tv1 (by simp [go_sem, y0]) rfl) fun d v hd => by cases hd; rfl
  ·exact fun _ _ _ σ_ hσ => oblg_of (ob_plain [35] rfl rfl fun _ g h => by obtain ⟨_, y0, rfl⟩ := seen_in rfl h.1; exact tv1 (by simp [go_sem, y0, s1 g]) rfl) fun d v hd => by cases hd; rfl
  ·exact fun _ h => absurd h (by decide)
  ·exact fun _ _ _ σ_ hσ => oblg_of (ob_plain [30, 37] rfl rfl fun _ g h => by obtain ⟨_, y0, ⟨⟨hf3, hf6, hf7, -⟩, p30, c30, B30, rfl, hB30, ho30⟩⟩ := seen_in rfl h.1; obtain ⟨_, y1, ⟨⟨hf11, hf14, -⟩, p37, c37, B37, rfl, hB37, ho37⟩⟩ := seen_in rfl h.2.1; exact tv1 (v := .agg #[.slice p30 (0 + N + N) c30, .slice p37 (0 + N + N) c37]) (by simp [go_sem, y0, y1]) ⟨⟨hf3, hf6, hf7, hf11, hf14, trivial⟩, p30, c30, p37, c37, rfl, own_base ho30 hB30, own_base ho37 hB37⟩) fun d v hd => by cases hd; rfl
  ·exact fun _ _ _ σ_ hσ => oblg_plain [] rfl rfl fun aa g h => by exact tupon_value (v := .pointer (some ⟨g.w.heap.size, 0, none⟩)) (w1 := g.w.alloc (.cells #[(.slice none 0 0), (.slice none 0 0)] 38)) (by simp [go_sem]) ((Below.refl _ _).alloc (Nat.le_refl _) _) ⟨⟨_, rfl, g.h.size, World.alloc_heap_new _ _⟩, fun d b hd hb => by cases hd; obtain rfl := Option.some.inj hb; exact Nat.le_refl _⟩
  ·exact fun _ _ h => absurd rfl h
 ·intro i p os hm hos
  simp only [List.mem_cons, List.not_mem_nil, or_false, Prod.mk.injEq] at hm
  rcases hm with ⟨rfl, rfl⟩ | ⟨rfl, rfl⟩ | ⟨rfl, rfl⟩ | ⟨rfl, rfl⟩ | ⟨rfl, rfl⟩
  ·obtain rfl := Option.some.inj hos
   intro σ_ aa gg d hd hσ h
   obtain rfl := Option.some.inj hd
   obtain ⟨v0, r0, hx0⟩ := seen_in rfl h.1
   obtain ⟨p0, c0, B0, rfl, hB0, ho0⟩ := ifF hσ hx0
   obtain ⟨_, r1, rfl⟩ := seen_in rfl h.2.1
   refine app_go gg (.tmp 23) (.tmp 25) 35 9 is0 (.string ByteArray.empty) 1 16 rfl Try.underlying35 his hss0 hss1 hss2 rfl (by decide) (.slice p0 (0) c0) (0) ([]) (by simp [Act.eval, r0]) (own_base ho0 hB0) pn (N) cn (cr encS (nms.take N)) (by simp [Act.eval, r1]) hnN' (by rw [strs_len, nms_len hN3, Nat.mul_one]) (fun ad e j u hj => rx_at' (hcN ad e j u hj) gg) (strs_one _) (by unfold maxLen; omega) (by omega) ?_
   intro p' c' w' hown' hgrow hblk
   refine ⟨fun t v ht hv hne hΦ => lk_pair ?_ hΦ, ?_, fun b hb => (hblk b hb).imp id (fun h0 => ⟨_, r0, ((kO (by decide) hσ).trans h0)⟩)⟩
   ·refine ⟨rfl, ?_, rfl, fun _ h => h, rfl, fun _ h => h, rfl, ?_, rfl, ?_, rfl, fun _ h => h, rfl, ?_, rfl, ?_, rfl, ?_, rfl, fun _ h => h, rfl, fun _ h => h, rfl, ?_, rfl, fun _ h => h, rfl, fun _ h => h, rfl, ?_, rfl, ?_, rfl, ?_, trivial⟩
    ·intro e hx; subst e; rw [if_pos (updS_self _ _)]; trivial
    ·exact fun e _ => absurd e.symm ht
    ·intro e hx; subst e; refine ifU (by decide) (fun hj hx => ?_) hx; exact litK hgrow hx fun X e h0 => hne (by decide) _ X r0 ((kO (by decide) hσ).trans h0) ((kO (by decide) hj).trans (by rw [e]; rfl))
    ·intro e hx; subst e; obtain ⟨⟨hf6, -⟩, hx⟩ := hx; exact ⟨⟨updS_mono hf6, trivial⟩, litK hgrow hx fun X e h0 => hne (by decide) _ X r0 ((kO (by decide) hσ).trans h0) ((kN (by decide)).trans (by rw [e]; rfl))⟩
    ·intro e hx; subst e; obtain ⟨⟨hf3, hf6, hf7, -⟩, _⟩ := hx; exact absurd (hσ.symm.trans hf3) Bool.false_ne_true
    ·intro e hx; subst e; refine ifU (by decide) (fun hj hx => ?_) hx; exact ownK hgrow hx fun b hb e2 => hne (by decide) _ b r0 ((kO (by decide) hσ).trans hb) ((kO (by decide) hj).trans e2)
    ·intro e hx; subst e; refine ifU (by decide) (fun hj hx => ?_) hx; obtain ⟨⟨hf11, -⟩, hx⟩ := hx; exact ⟨⟨updS_mono hf11, trivial⟩, ownK hgrow hx fun b hb e2 => hne (by decide) _ b r0 ((kO (by decide) hσ).trans hb) ((kO (by decide) hj).trans e2)⟩
    ·intro e hx; subst e; obtain ⟨⟨hf11, hf14, -⟩, hx⟩ := hx; exact ⟨⟨updS_mono hf11, updS_mono hf14, trivial⟩, ownK hgrow hx fun b hb e2 => hne (by decide) _ b r0 ((kO (by decide) hσ).trans hb) ((kN (by decide)).trans e2)⟩
    ·intro e hx; subst e; obtain ⟨⟨hf3, hf6, hf7, hf11, hf14, -⟩, _⟩ := hx; exact absurd (hσ.symm.trans hf3) Bool.false_ne_true
    ·intro e hx; subst e; exact litK hgrow hx fun X e h0 => hne (by decide) _ X r0 ((kO (by decide) hσ).trans h0) ((kN (by decide)).trans (by rw [e]; rfl))
   ·show (fun (z_ : Value) (w' : World) => if (updS σ_ 3) 7 = true then True else ((updS σ_ 3) 3 = true ∧ True) ∧ ∃ p_ c_ B_, z_ = .slice p_ (0 + N) c_ ∧ w6.heap.size ≤ B_ ∧ w'.ownsRow B_ 9 1 (.slice p_ (0 + N) c_) (0 + N) ([] ++ cr encS (nms.take N))) (.slice p' (0 + N) c') w'
    exact ifI ⟨⟨updS_self _ _, trivial⟩, p', c', _, rfl, Nat.le_refl _, hown'⟩
  ·obtain rfl := Option.some.inj hos
   intro σ_ aa gg d hd hσ h
   obtain rfl := Option.some.inj hd
   obtain ⟨v0, r0, hx0⟩ := seen_in rfl h.1
   obtain ⟨X0, rfl, hX0, hI0⟩ := ifF hσ hx0
   obtain ⟨_, r1, rfl⟩ := seen_in rfl h.2.1
   refine ⟨_, gg.w, exec_cuth 35 (.tmp 27) (.tmp 28) rfl Try.underlying35 1 (size_str _) (some ⟨X0, 0, none⟩) 3 3 N (by simp [Act.eval, r0]) (by simp [Act.eval, r1]) (by omega) (by decide), gg.h, fun t v ht hv hne hΦ => lk_pair ?_ hΦ, ?_, fun b hb => .inr ⟨_, r0, ((kO (by decide) hσ).trans hb)⟩⟩
   ·refine ⟨rfl, ?_, rfl, fun _ h => h, rfl, fun _ h => h, rfl, ?_, rfl, ?_, rfl, fun _ h => h, rfl, ?_, rfl, ?_, rfl, ?_, rfl, fun _ h => h, rfl, fun _ h => h, rfl, ?_, rfl, fun _ h => h, rfl, fun _ h => h, rfl, ?_, rfl, ?_, rfl, ?_, trivial⟩
    ·intro e hx; subst e; refine ifU (by decide) (fun hj hx => ?_) hx; exact hx
    ·intro e hx; subst e; refine ifU (by decide) (fun hj hx => ?_) hx; obtain ⟨⟨hf3, -⟩, hx⟩ := hx; exact ⟨⟨updS_mono hf3, trivial⟩, hx⟩
    ·intro e hx; subst e; rw [if_pos (updS_self _ _)]; trivial
    ·exact fun e _ => absurd e.symm ht
    ·intro e hx; subst e; obtain ⟨⟨hf3, hf6, hf7, -⟩, _⟩ := hx; exact absurd (hσ.symm.trans hf6) Bool.false_ne_true
    ·intro e hx; subst e; refine ifU (by decide) (fun hj hx => ?_) hx; exact hx
    ·intro e hx; subst e; refine ifU (by decide) (fun hj hx => ?_) hx; obtain ⟨⟨hf11, -⟩, hx⟩ := hx; exact ⟨⟨updS_mono hf11, trivial⟩, hx⟩
    ·intro e hx; subst e; obtain ⟨⟨hf11, hf14, -⟩, hx⟩ := hx; exact ⟨⟨updS_mono hf11, updS_mono hf14, trivial⟩, hx⟩
    ·intro e hx; subst e; obtain ⟨⟨hf3, hf6, hf7, hf11, hf14, -⟩, _⟩ := hx; exact absurd (hσ.symm.trans hf6) Bool.false_ne_true
    ·intro e hx; subst e; exact hx
   ·show (fun (z_ : Value) (w' : World) => ((updS σ_ 6) 6 = true ∧ True) ∧ ∃ X_, z_ = .slice (some ⟨X_, 0, none⟩) N 3 ∧ w6.heap.size ≤ X_ ∧ w'.heap[X_]? = some (.cells #[.string ⟨#[97]⟩, .string ⟨#[98]⟩, .string ⟨#[99]⟩] 9 (0, 0))) (.slice (some ⟨X0, 0, none⟩) N 3) gg.w
    exact ⟨⟨updS_self _ _, trivial⟩, X0, rfl, hX0, hI0⟩
  ·obtain rfl := Option.some.inj hos
   intro σ_ aa gg d hd hσ h
   obtain rfl := Option.some.inj hd
   obtain ⟨v0, r0, hx0⟩ := seen_in rfl h.1
   obtain ⟨⟨hf3, -⟩, p0, c0, B0, rfl, hB0, ho0⟩ := ifF hσ hx0
   obtain ⟨_, r1, ⟨⟨hf6, -⟩, X29, rfl, hX29, hI29⟩⟩ := seen_in rfl h.2.1
   refine app_go gg (.tmp 26) (.tmp 29) 35 9 is0 (.string ByteArray.empty) 1 16 rfl Try.underlying35 his hss0 hss1 hss2 rfl (by decide) (.slice p0 (0 + N) c0) (0 + N) ([] ++ cr encS (nms.take N)) (by simp [Act.eval, r0]) (own_base ho0 hB0) (some ⟨X29, 0, none⟩) (N) 3 (cr encS (abc.take N)) (by simp [Act.eval, r1]) (fun e => by cases e) (by rw [strs_len, List.length_take, Nat.mul_one]; exact Nat.min_eq_left hN3) (fun ad e j u hj => by obtain rfl := Option.some.inj e; exact abc_at hI29 hj) (strs_one _) (by unfold maxLen; omega) (by omega) ?_
   intro p' c' w' hown' hgrow hblk
   refine ⟨fun t v ht hv hne hΦ => lk_pair ?_ hΦ, ?_, fun b hb => (hblk b hb).imp id (fun h0 => ⟨_, r0, ((kO (by decide) hσ).trans h0)⟩)⟩
   ·refine ⟨rfl, ?_, rfl, fun _ h => h, rfl, fun _ h => h, rfl, ?_, rfl, ?_, rfl, fun _ h => h, rfl, ?_, rfl, ?_, rfl, ?_, rfl, fun _ h => h, rfl, fun _ h => h, rfl, ?_, rfl, fun _ h => h, rfl, fun _ h => h, rfl, ?_, rfl, ?_, rfl, ?_, trivial⟩
    ·intro e hx; subst e; refine ifU (by decide) (fun hj hx => ?_) hx; exact ownK hgrow hx fun b hb e2 => hne (by decide) _ b r0 ((kO (by decide) hσ).trans hb) ((kO (by decide) hj).trans e2)
    ·intro e hx; subst e; rw [if_pos (updS_self _ _)]; trivial
    ·intro e hx; subst e; refine ifU (by decide) (fun hj hx => ?_) hx; exact litK hgrow hx fun X e h0 => hne (by decide) _ X r0 ((kO (by decide) hσ).trans h0) ((kO (by decide) hj).trans (by rw [e]; rfl))
    ·intro e hx; subst e; obtain ⟨⟨hf6, -⟩, hx⟩ := hx; exact ⟨⟨updS_mono hf6, trivial⟩, litK hgrow hx fun X e h0 => hne (by decide) _ X r0 ((kO (by decide) hσ).trans h0) ((kN (by decide)).trans (by rw [e]; rfl))⟩
    ·exact fun e _ => absurd e.symm ht
    ·intro e hx; subst e; refine ifU (by decide) (fun hj hx => ?_) hx; exact ownK hgrow hx fun b hb e2 => hne (by decide) _ b r0 ((kO (by decide) hσ).trans hb) ((kO (by decide) hj).trans e2)
    ·intro e hx; subst e; refine ifU (by decide) (fun hj hx => ?_) hx; obtain ⟨⟨hf11, -⟩, hx⟩ := hx; exact ⟨⟨updS_mono hf11, trivial⟩, ownK hgrow hx fun b hb e2 => hne (by decide) _ b r0 ((kO (by decide) hσ).trans hb) ((kO (by decide) hj).trans e2)⟩
    ·intro e hx; subst e; obtain ⟨⟨hf11, hf14, -⟩, hx⟩ := hx; exact ⟨⟨updS_mono hf11, updS_mono hf14, trivial⟩, ownK hgrow hx fun b hb e2 => hne (by decide) _ b r0 ((kO (by decide) hσ).trans hb) ((kN (by decide)).trans e2)⟩
    ·intro e hx; subst e; obtain ⟨⟨hf3, hf6, hf7, hf11, hf14, -⟩, _⟩ := hx; exact absurd (hσ.symm.trans hf7) Bool.false_ne_true
    ·intro e hx; subst e; exact litK hgrow hx fun X e h0 => hne (by decide) _ X r0 ((kO (by decide) hσ).trans h0) ((kN (by decide)).trans (by rw [e]; rfl))
   ·show (fun (z_ : Value) (w' : World) => ((updS σ_ 7) 3 = true ∧ (updS σ_ 7) 6 = true ∧ (updS σ_ 7) 7 = true ∧ True) ∧ ∃ p_ c_ B_, z_ = .slice p_ (0 + N + N) c_ ∧ w6.heap.size ≤ B_ ∧ w'.ownsRow B_ 9 1 (.slice p_ (0 + N + N) c_) (0 + N + N) ([] ++ cr encS (nms.take N) ++ cr encS (abc.take N))) (.slice p' (0 + N + N) c') w'
    exact ⟨⟨updS_mono hf3, updS_mono hf6, updS_self _ _, trivial⟩, p', c', _, rfl, Nat.le_refl _, hown'⟩
  ·obtain rfl := Option.some.inj hos
   intro σ_ aa gg d hd hσ h
   obtain rfl := Option.some.inj hd
   obtain ⟨v0, r0, hx0⟩ := seen_in rfl h.1
   obtain ⟨p0, c0, B0, rfl, hB0, ho0⟩ := ifF hσ hx0
   obtain ⟨_, r1, rfl⟩ := seen_in rfl h.2.1
   refine app_go gg (.tmp 31) (.tmp 33) 36 54 in0 (.slice none 0 0) 1 24 rfl Try.underlying36 hin hns0 hns1 hns2 rfl (by decide) (.slice p0 (0) c0) (0) ([]) (by simp [Act.eval, r0]) (own_base ho0 hB0) (some af) (N) cf (us) (by simp [Act.eval, r1]) (fun e => by cases e) (by rw [HUN.out, Nat.mul_one]) (fun ad e j u hj => by obtain rfl := Option.some.inj e; exact rx_at' (hcU j u hj) gg) hoU (by unfold maxLen; omega) (by omega) ?_
   intro p' c' w' hown' hgrow hblk
   refine ⟨fun t v ht hv hne hΦ => lk_pair ?_ hΦ, ?_, fun b hb => (hblk b hb).imp id (fun h0 => ⟨_, r0, ((kO (by decide) hσ).trans h0)⟩)⟩
   ·refine ⟨rfl, ?_, rfl, fun _ h => h, rfl, fun _ h => h, rfl, ?_, rfl, ?_, rfl, fun _ h => h, rfl, ?_, rfl, ?_, rfl, ?_, rfl, fun _ h => h, rfl, fun _ h => h, rfl, ?_, rfl, fun _ h => h, rfl, fun _ h => h, rfl, ?_, rfl, ?_, rfl, ?_, trivial⟩
    ·intro e hx; subst e; refine ifU (by decide) (fun hj hx => ?_) hx; exact ownK hgrow hx fun b hb e2 => hne (by decide) _ b r0 ((kO (by decide) hσ).trans hb) ((kO (by decide) hj).trans e2)
    ·intro e hx; subst e; refine ifU (by decide) (fun hj hx => ?_) hx; obtain ⟨⟨hf3, -⟩, hx⟩ := hx; exact ⟨⟨updS_mono hf3, trivial⟩, ownK hgrow hx fun b hb e2 => hne (by decide) _ b r0 ((kO (by decide) hσ).trans hb) ((kO (by decide) hj).trans e2)⟩
    ·intro e hx; subst e; refine ifU (by decide) (fun hj hx => ?_) hx; exact litK hgrow hx fun X e h0 => hne (by decide) _ X r0 ((kO (by decide) hσ).trans h0) ((kO (by decide) hj).trans (by rw [e]; rfl))
    ·intro e hx; subst e; obtain ⟨⟨hf6, -⟩, hx⟩ := hx; exact ⟨⟨updS_mono hf6, trivial⟩, litK hgrow hx fun X e h0 => hne (by decide) _ X r0 ((kO (by decide) hσ).trans h0) ((kN (by decide)).trans (by rw [e]; rfl))⟩
    ·intro e hx; subst e; obtain ⟨⟨hf3, hf6, hf7, -⟩, hx⟩ := hx; exact ⟨⟨updS_mono hf3, updS_mono hf6, updS_mono hf7, trivial⟩, ownK hgrow hx fun b hb e2 => hne (by decide) _ b r0 ((kO (by decide) hσ).trans hb) ((kN (by decide)).trans e2)⟩
    ·intro e hx; subst e; rw [if_pos (updS_self _ _)]; trivial
    ·exact fun e _ => absurd e.symm ht
    ·intro e hx; subst e; obtain ⟨⟨hf11, hf14, -⟩, _⟩ := hx; exact absurd (hσ.symm.trans hf11) Bool.false_ne_true
    ·intro e hx; subst e; obtain ⟨⟨hf3, hf6, hf7, hf11, hf14, -⟩, _⟩ := hx; exact absurd (hσ.symm.trans hf11) Bool.false_ne_true
    ·intro e hx; subst e; exact litK hgrow hx fun X e h0 => hne (by decide) _ X r0 ((kO (by decide) hσ).trans h0) ((kN (by decide)).trans (by rw [e]; rfl))
   ·show (fun (z_ : Value) (w' : World) => if (updS σ_ 11) 14 = true then True else ((updS σ_ 11) 11 = true ∧ True) ∧ ∃ p_ c_ B_, z_ = .slice p_ (0 + N) c_ ∧ w6.heap.size ≤ B_ ∧ w'.ownsRow B_ 54 1 (.slice p_ (0 + N) c_) (0 + N) ([] ++ us)) (.slice p' (0 + N) c') w'
    exact ifI ⟨⟨updS_self _ _, trivial⟩, p', c', _, rfl, Nat.le_refl _, hown'⟩
  ·obtain rfl := Option.some.inj hos
   intro σ_ aa gg d hd hσ h
   obtain rfl := Option.some.inj hd
   obtain ⟨v0, r0, hx0⟩ := seen_in rfl h.1
   obtain ⟨⟨hf11, -⟩, p0, c0, B0, rfl, hB0, ho0⟩ := ifF hσ hx0
   obtain ⟨_, r1, rfl⟩ := seen_in rfl h.2.1
   refine app_go gg (.tmp 34) (.tmp 36) 36 54 in0 (.slice none 0 0) 1 24 rfl Try.underlying36 hin hns0 hns1 hns2 rfl (by decide) (.slice p0 (0 + N) c0) (0 + N) ([] ++ us) (by simp [Act.eval, r0]) (own_base ho0 hB0) (some af) (N) cf (us) (by simp [Act.eval, r1]) (fun e => by cases e) (by rw [HUN.out, Nat.mul_one]) (fun ad e j u hj => by obtain rfl := Option.some.inj e; exact rx_at' (hcU j u hj) gg) hoU (by unfold maxLen; omega) (by omega) ?_
   intro p' c' w' hown' hgrow hblk
   refine ⟨fun t v ht hv hne hΦ => lk_pair ?_ hΦ, ?_, fun b hb => (hblk b hb).imp id (fun h0 => ⟨_, r0, ((kO (by decide) hσ).trans h0)⟩)⟩
   ·refine ⟨rfl, ?_, rfl, fun _ h => h, rfl, fun _ h => h, rfl, ?_, rfl, ?_, rfl, fun _ h => h, rfl, ?_, rfl, ?_, rfl, ?_, rfl, fun _ h => h, rfl, fun _ h => h, rfl, ?_, rfl, fun _ h => h, rfl, fun _ h => h, rfl, ?_, rfl, ?_, rfl, ?_, trivial⟩
    ·intro e hx; subst e; refine ifU (by decide) (fun hj hx => ?_) hx; exact ownK hgrow hx fun b hb e2 => hne (by decide) _ b r0 ((kO (by decide) hσ).trans hb) ((kO (by decide) hj).trans e2)
    ·intro e hx; subst e; refine ifU (by decide) (fun hj hx => ?_) hx; obtain ⟨⟨hf3, -⟩, hx⟩ := hx; exact ⟨⟨updS_mono hf3, trivial⟩, ownK hgrow hx fun b hb e2 => hne (by decide) _ b r0 ((kO (by decide) hσ).trans hb) ((kO (by decide) hj).trans e2)⟩
    ·intro e hx; subst e; refine ifU (by decide) (fun hj hx => ?_) hx; exact litK hgrow hx fun X e h0 => hne (by decide) _ X r0 ((kO (by decide) hσ).trans h0) ((kO (by decide) hj).trans (by rw [e]; rfl))
    ·intro e hx; subst e; obtain ⟨⟨hf6, -⟩, hx⟩ := hx; exact ⟨⟨updS_mono hf6, trivial⟩, litK hgrow hx fun X e h0 => hne (by decide) _ X r0 ((kO (by decide) hσ).trans h0) ((kN (by decide)).trans (by rw [e]; rfl))⟩
    ·intro e hx; subst e; obtain ⟨⟨hf3, hf6, hf7, -⟩, hx⟩ := hx; exact ⟨⟨updS_mono hf3, updS_mono hf6, updS_mono hf7, trivial⟩, ownK hgrow hx fun b hb e2 => hne (by decide) _ b r0 ((kO (by decide) hσ).trans hb) ((kN (by decide)).trans e2)⟩
    ·intro e hx; subst e; refine ifU (by decide) (fun hj hx => ?_) hx; exact ownK hgrow hx fun b hb e2 => hne (by decide) _ b r0 ((kO (by decide) hσ).trans hb) ((kO (by decide) hj).trans e2)
    ·intro e hx; subst e; rw [if_pos (updS_self _ _)]; trivial
    ·exact fun e _ => absurd e.symm ht
    ·intro e hx; subst e; obtain ⟨⟨hf3, hf6, hf7, hf11, hf14, -⟩, _⟩ := hx; exact absurd (hσ.symm.trans hf14) Bool.false_ne_true
    ·intro e hx; subst e; exact litK hgrow hx fun X e h0 => hne (by decide) _ X r0 ((kO (by decide) hσ).trans h0) ((kN (by decide)).trans (by rw [e]; rfl))
   ·show (fun (z_ : Value) (w' : World) => ((updS σ_ 14) 11 = true ∧ (updS σ_ 14) 14 = true ∧ True) ∧ ∃ p_ c_ B_, z_ = .slice p_ (0 + N + N) c_ ∧ w6.heap.size ≤ B_ ∧ w'.ownsRow B_ 54 1 (.slice p_ (0 + N + N) c_) (0 + N + N) ([] ++ us ++ us)) (.slice p' (0 + N + N) c') w'
    exact ⟨⟨updS_mono hf11, updS_self _ _, trivial⟩, p', c', _, rfl, Nat.le_refl _, hown'⟩
 rintro w10 hB10 v23 - _ rfl _ rfl v26 - v27 - _ rfl _ ⟨⟨hf6, -⟩, X29, rfl, hX29, hI29⟩ _ ⟨⟨hf3, hf6, hf7, -⟩, p30, c30, B30, rfl, hB30, ho30⟩ v31 - _ rfl _ rfl v34 - _ rfl _ rfl _ ⟨⟨hf11, hf14, -⟩, p37, c37, B37, rfl, hB37, ho37⟩ _ ⟨⟨hf3, hf6, hf7, hf11, hf14, -⟩, p38, c38, q38, d38, rfl, ha38, hb38⟩ _ ⟨X7, rfl, hX7, hI7⟩
 simp only [Act.put, List.setIfInBounds_toArray, List.set_cons_succ, List.set_cons_zero, List.filterMap_nil, finP]
 intro hdis hcp
 simp only [Nat.zero_add, List.nil_append] at ha38 hb38 ⊢
 have y0 := heapN_cellj hI7 (k := 0) rfl
 have z0 : w10.frozen? ⟨X7, 0, none⟩ = false := by simp [World.frozen?, hI7]
 have y1 := heapN_cellj hI7 (k := 1) rfl
 have z1 : w10.frozen? ⟨X7, 1, none⟩ = false := by simp [World.frozen?, hI7]
 refine endQ_some rfl ⟨_, by simp [go_sem, y0, z0, y1, z1]; rfl, ?_⟩
 have hB11 : Below w6.heap.size w6 ((w10.setCell ⟨X7, 0, none⟩ (.slice p38 (N + N) c38)).setCell ⟨X7, 1, none⟩ (.slice q38 (N + N) d38)) := (hB10.setCell (p := ⟨X7, 0, none⟩) hX7 _).setCell (p := ⟨X7, 1, none⟩) hX7 _
 have ka := (ha38.kept (grownBy_setN _ ⟨X7, 0, none⟩ (.slice p38 (N + N) c38)) (.inr (own_apart ha38 hI7 (by decide)))).kept (grownBy_setN _ ⟨X7, 1, none⟩ (.slice q38 (N + N) d38)) (.inr (own_apart ha38 hI7 (by decide)))
 have kb := (hb38.kept (grownBy_setN _ ⟨X7, 0, none⟩ (.slice p38 (N + N) c38)) (.inr (own_apart hb38 hI7 (by decide)))).kept (grownBy_setN _ ⟨X7, 1, none⟩ (.slice q38 (N + N) d38)) (.inr (own_apart hb38 hI7 (by decide)))
 have h7 := cellsT_setN (o := 1) (u := .slice q38 (N + N) d38) (cellsT_setN (o := 0) (u := .slice p38 (N + N) c38) hI7)
 generalize hWc : World.setCell (World.setCell w10 _ _) _ _ = w11 at *
 clear hWc y0 z0 y1 z1 hdis hcp ha38 hb38 hI7 hB10 s0 s1
 have HX7 := Lib.hid (show Blk w11 X7 (.cells #[.slice p38 (N + N) c38, .slice q38 (N + N) d38] 38) from h7)
 have hsx2 : Sx w11 (.slice p38 (N + N) c38) (nms.take N ++ abc.take N) := by
  have e : cr encS (nms.take N ++ abc.take N) = cr encS (nms.take N) ++ cr encS (abc.take N) := by simp [cr]
  have hl := (nms_ok hN3 (fun _ _ => trivial)).2.2
  rw [← e, ← hl] at ka
  have := Rx.own (enc := encS) (fun _ => rfl) ka (by unfold maxLen; omega)
  rw [hl] at this
  exact this
 have hc38 : N + N ≤ c38 := by
  obtain ⟨_, _, e9, h⟩ := own_some ka (by omega)
  simp only [Value.slice.injEq] at e9
  omega
 have hrl : (ts ++ ts).length = N + N := by rw [List.length_append, HTL.out]
 have hlx2 : Lx NxO w11 (.slice q38 (N + N) d38) ((ts ++ ts).map pre) := by
  have hol : OwnL w6.heap.size w11 (.slice q38 (N + N) d38) ((ts ++ ts).map pre) (us ++ us) := by
   refine ⟨by rw [List.length_map, hrl]; exact kb, fun k u x hk hx => ?_⟩
   have hml : (ts.map pre).length = N := by rw [List.length_map, HTL.out]
   rw [List.map_append] at hx
   rcases Nat.lt_or_ge k N with hlt | hge
   ·rw [List.getElem?_append_left (by rw [HUN.out]; exact hlt)] at hk
    rw [List.getElem?_append_left (by rw [hml]; exact hlt)] at hx
    exact (hXU.out k u x hk hx).grow hB11
   ·rw [List.getElem?_append_right (by rw [HUN.out]; exact hge), HUN.out] at hk
    rw [List.getElem?_append_right (by rw [hml]; exact hge), hml] at hx
    exact (hXU.out (k - N) u x hk hx).grow hB11
  exact hol.lx (by rw [List.length_map, hrl]; unfold maxLen; omega)
 have KC2 := Lib.hid (fun w a b => comp_gen (nms.take N ++ abc.take N) (ts ++ ts) C (oc ++ oc) (N + N) p38 c38 (.slice q38 (N + N) d38) w a (nms_ok hN3 (fun _ _ => trivial)).2.2 hc38 b hrl (by omega) (by omega) (nms_ok hN3 (fun _ _ => trivial)).1 (nms_ok hN3 (fun _ _ => trivial)).2.1 (fun t ht => ev_mono (by omega) (HEV.out t (by rcases List.mem_append.1 ht with h | h <;> exact h))) (fun t ht => H200.out t (by rcases List.mem_append.1 ht with h | h <;> exact h)) (by omega) (by have h := share_twice ts; rw [HCE.out] at h; exact h))
 have HSX2 := Lib.hid hsx2
 have HLX2 := Lib.hid hlx2
 have HC5 := Lib.hid (HC5.out.grow hB11)
 have HIC := Lib.hid (HIC.out.grow hB11)
 have HPC := Lib.hid (HPC.out.grow hB11)
 have HS := Lib.hid (HS.out.grow hB11)
 have HSX := Lib.hid (HSX.out.grow hB11)
 have HLX := Lib.hid (HLX.out.grow grows_nxo hB11)
 have HW := Lib.hid (below_then HW.out hB11)
 have y0 := heapN_cellj HX7.out (k := 0) rfl
 have y1 := heapN_cellj HX7.out (k := 1) rfl
 clear hB11 ka kb h7 hsx2 hlx2 hrl hnN' hcN hcU hoU his hss0 hss1 hss2 hin hns0 hns1 hns2 hc38 hXU HUN hX7
 go_wp2_with (fail)
 refine (KC2.out _ HSX2.out HLX2.out).mono ?_
 rintro e w12 ⟨p3, c3, p4, c4, rfl, hi2, hp2, hB⟩
 obtain ⟨M, hM⟩ : ∃ M, N + N = M := ⟨_, rfl⟩
 rw [hM] at hp2 ⊢
 have hol2 : (oc ++ oc).length = M := by rw [List.length_append, HOL.out, hM]
 have hic2 := Rx.own encI_len hi2 (by unfold maxLen; omega)
 have hpc2 : Px w12 (.slice p4 M c4) (oc ++ oc) := by
  have h := hp2
  rw [← hol2] at h
  have := Rx.own (enc := enc1) (fun _ => rfl) h (by unfold maxLen; omega)
  rw [hol2] at this
  exact this
 have hS : Below w12.heap.size w12 (w12.alloc (.cells #[.int .i64 M, .slice p3 C.length c3, .slice p4 M c4] 25)) := (Below.refl _ _).alloc (Nat.le_refl _) _
 have HD := Lib.hid (show Blk (w12.alloc (.cells #[.int .i64 M, .slice p3 C.length c3, .slice p4 M c4] 25)) w12.heap.size (.cells #[.int .i64 M, .slice p3 C.length c3, .slice p4 M c4] 25) from World.alloc_heap_new w12 _)
 have HPD := Lib.hid (hpc2.grow hS)
 have HC5 := Lib.hid ((HC5.out.grow hB).grow hS)
 have HIC := Lib.hid ((HIC.out.grow hB).grow hS)
 have HPC := Lib.hid ((HPC.out.grow hB).grow hS)
 have HS := Lib.hid ((HS.out.grow hB).grow hS)
 have HSX := Lib.hid ((HSX.out.grow hB).grow hS)
 have HLX := Lib.hid ((HLX.out.grow grows_nxo hB).grow grows_nxo hS)
 have HW := Lib.hid (below_then (below_then HW.out hB) hS)
 have e2 := heapN_cellj HC5.out (k := 2) rfl
 have e1 := heapN_cellj HC5.out (k := 1) rfl
 have d2 := heapN_cellj HD.out (k := 2) rfl
 have d1 := heapN_cellj HD.out (k := 1) rfl
 have U1 : IntKind.i64.wrap (2 * (N : Int)) = 2 * (N : Int) := wrapN _ (by omega) (by omega)
 have i1 : ((N : Int) != N) = false := by simp
 have i2 : ((M : Int) != 2 * (N : Int)) = false := by
  have : (M : Int) = 2 * N := by omega
  rw [this]; simp
 have i3 : ((C.length : Int) != C.length) = false := by simp
 clear hB hi2 hp2 hol2 hic2 hpc2 hS KC2 HSX2 HLX2 y0 y1 HX7
 go_wp2_with (fail)
 generalize hWc : World.alloc w12 _ = WD at *
 clear hWc
 clear e1 e2 d1 d2 U1 i1 i2 i3
 go_loopw [9] (fun i wr => ∃ k : Nat, i = .int .i64 k ∧ k ≤ N ∧ Hid (Below WD.heap.size WD wr)) (fun i _ => N - (intOf i).toNat)
 case atStart => exact ⟨0, rfl, Nat.zero_le _, Lib.hid (Below.refl _ _)⟩
 case round =>
  obtain ⟨k, rfl, hk, HB⟩ := hrel
  by_cases hlt : k < N
  ·have i2 : (k : Int) < N := by omega
   have i4 : (k : Int) < M := by omega
   obtain ⟨j, hj⟩ : ∃ j, N + k = j := ⟨_, rfl⟩
   have i5 : (j : Int) < M := by omega
   have U2 : IntKind.i64.wrap ((N : Int) + (k : Int)) = (j : Int) := by rw [wrapN _ (by omega) (by omega)]; omega
   obtain ⟨y, hy⟩ : ∃ y, oc[k]? = some y := ⟨_, List.getElem?_eq_getElem (by rw [HOL.out]; exact hlt)⟩
   have hy1 : (oc ++ oc)[k]? = some y := by rw [List.getElem?_append_left (by rw [HOL.out]; exact hlt)]; exact hy
   have hy2 : (oc ++ oc)[j]? = some y := by rw [List.getElem?_append_right (by rw [HOL.out]; omega), HOL.out, show j - N = k by omega]; exact hy
   obtain ⟨b4, o4, hp4, _, rd4⟩ := px_rd HPD.out hy1
   obtain ⟨b5, o5, hp5, _, rd5⟩ := px_rd HPD.out hy2
   rw [hp4] at hp5
   simp only [Option.some.injEq, Addr.mk.injEq, and_true] at hp5
   obtain ⟨rfl, rfl⟩ := hp5
   obtain ⟨b6, o6, hp6, _, rd6⟩ := px_rd HPC.out hy
   have d2 := fun g : Grown wr => heapN_cellj ((HD.out.grow HB.out).grow g.h) (k := 2) rfl
   have e2 := fun g : Grown wr => heapN_cellj ((HC5.out.grow HB.out).grow g.h) (k := 2) rfl
   rw [hp4] at d2
   rw [hp6] at e2
   have f4 := fun g : Grown wr => rd4 ⟨g.w, HB.out.trans (g.h.mono HB.out.size)⟩
   have f5 := fun g : Grown wr => rd5 ⟨g.w, HB.out.trans (g.h.mono HB.out.size)⟩
   have f6 := fun g : Grown wr => rd6 ⟨g.w, HB.out.trans (g.h.mono HB.out.size)⟩
   have nyy : (y != y) = false := by simp
   clear hy hy1 hy2 rd4 rd5 rd6 hj hp4 hp6
   go_wp2_with (fail)
   refine region_pred (lk [(68, fun z_ _ => z_ = .pointer (some ⟨w12.heap.size, 2, none⟩)), (69, fun z_ _ => z_ = .slice (some ⟨b4, o4, none⟩) M c4), (70, fun z_ _ => z_ = .int .i64 (k : Int)), (71, fun z_ _ => z_ = .pointer (some ⟨b4, o4 + k, none⟩)), (72, fun z_ _ => z_ = .int .i64 y), (73, fun z_ _ => z_ = .pointer (some ⟨w12.heap.size, 2, none⟩)), (74, fun z_ _ => z_ = .slice (some ⟨b4, o4, none⟩) M c4), (75, fun z_ _ => z_ = .int .i64 N), (76, fun z_ _ => z_ = .int .i64 (k : Int)), (77, fun z_ _ => z_ = .int .i64 (j : Int)), (78, fun z_ _ => z_ = .pointer (some ⟨b4, o4 + j, none⟩)), (79, fun z_ _ => z_ = .int .i64 y), (80, fun z_ _ => z_ = .bool false), (81, fun z_ _ => z_ = .bool false), (82, fun z_ _ => z_ = .pointer (some ⟨w12.heap.size, 2, none⟩)), (83, fun z_ _ => z_ = .slice (some ⟨b4, o4, none⟩) M c4), (84, fun z_ _ => z_ = .int .i64 (k : Int)), (85, fun z_ _ => z_ = .pointer (some ⟨b4, o4 + k, none⟩)), (86, fun z_ _ => z_ = .int .i64 y), (87, fun z_ _ => z_ = .pointer (some ⟨X5, 2, none⟩)), (88, fun z_ _ => z_ = .slice (some ⟨b6, o6, none⟩) N c2), (89, fun z_ _ => z_ = .int .i64 (k : Int)), (90, fun z_ _ => z_ = .pointer (some ⟨b6, o6 + k, none⟩)), (91, fun z_ _ => z_ = .int .i64 y), (92, fun z_ _ => z_ = .bool false), (93, fun z_ _ => z_ = .bool false)]) (by kernel_rfl) (by kernel_rfl) (lk_steady _ ⟨steady_eq _, steady_eq _, steady_eq _, steady_eq _, steady_eq _, steady_eq _, steady_eq _, steady_eq _, steady_eq _, steady_eq _, steady_eq _, steady_eq _, steady_eq _, steady_eq _, steady_eq _, steady_eq _, steady_eq _, steady_eq _, steady_eq _, steady_eq _, steady_eq _, steady_eq _, steady_eq _, steady_eq _, steady_eq _, steady_eq _, trivial⟩) ?_ ?_
   ·refine ⟨?_, ?_, ?_, ?_, ?_, ?_, ?_, ?_, ?_, ?_, ?_, ?_, ?_, ?_, ?_, ?_, ?_, ?_, ?_, ?_, ?_, ?_, ?_, ?_, ?_, ?_, trivial⟩
    ·exact ob_plain [8] rfl rfl fun _ g h => by have y0 := seen_out rfl rfl h.1; exact tv1 (by simp [go_sem, y0]) rfl
    ·exact ob_plain [68] rfl rfl fun _ g h => by obtain ⟨_, y0, rfl⟩ := seen_in rfl h.1; exact tv1 (by simp [go_sem, y0, d2 g]) rfl
    ·exact ob_plain [9] rfl rfl fun _ g h => by have y0 := seen_out rfl rfl h.1; exact tv1 (by simp [go_sem, y0]) rfl
    ·exact ob_plain [69, 70] rfl rfl fun _ g h => by obtain ⟨_, y0, rfl⟩ := seen_in rfl h.1; obtain ⟨_, y1, rfl⟩ := seen_in rfl h.2.1; exact tv1 (by simp [go_sem, y0, y1, i4]) rfl
    ·exact ob_plain [71] rfl rfl fun _ g h => by obtain ⟨_, y0, rfl⟩ := seen_in rfl h.1; exact tv1 (by simp [go_sem, y0, f4 g]) rfl
    ·exact ob_plain [8] rfl rfl fun _ g h => by have y0 := seen_out rfl rfl h.1; exact tv1 (by simp [go_sem, y0]) rfl
    ·exact ob_plain [73] rfl rfl fun _ g h => by obtain ⟨_, y0, rfl⟩ := seen_in rfl h.1; exact tv1 (by simp [go_sem, y0, d2 g]) rfl
    ·exact ob_plain [6] rfl rfl fun _ g h => by have y0 := seen_out rfl rfl h.1; exact tv1 (by simp [go_sem, y0]) rfl
    ·exact ob_plain [9] rfl rfl fun _ g h => by have y0 := seen_out rfl rfl h.1; exact tv1 (by simp [go_sem, y0]) rfl
    ·exact ob_plain [75, 76] rfl rfl fun _ g h => by obtain ⟨_, y0, rfl⟩ := seen_in rfl h.1; obtain ⟨_, y1, rfl⟩ := seen_in rfl h.2.1; exact tv1 (by simp [go_sem, y0, y1, U2]) rfl
    ·exact ob_plain [74, 77] rfl rfl fun _ g h => by obtain ⟨_, y0, rfl⟩ := seen_in rfl h.1; obtain ⟨_, y1, rfl⟩ := seen_in rfl h.2.1; exact tv1 (by simp [go_sem, y0, y1, i5]) rfl
    ·exact ob_plain [78] rfl rfl fun _ g h => by obtain ⟨_, y0, rfl⟩ := seen_in rfl h.1; exact tv1 (by simp [go_sem, y0, f5 g]) rfl
    ·exact ob_plain [72, 79] rfl rfl fun _ g h => by obtain ⟨_, y0, rfl⟩ := seen_in rfl h.1; obtain ⟨_, y1, rfl⟩ := seen_in rfl h.2.1; exact tv1 (by simp [go_sem, y0, y1]) rfl
    ·exact ob_plain [80] rfl rfl fun _ g h => by obtain ⟨_, y0, rfl⟩ := seen_in rfl h.1; exact tv1 (by simp [go_sem, y0]) rfl
    ·exact gT [8] false 81 rfl rfl rfl fun _ g h => by have y0 := seen_out rfl rfl h.1; exact tv1 (by simp [go_sem, y0]) rfl
    ·exact gT [82] false 81 rfl rfl rfl fun _ g h => by obtain ⟨_, y0, rfl⟩ := seen_in rfl h.1; exact tv1 (by simp [go_sem, y0, d2 g]) rfl
    ·exact gT [9] false 81 rfl rfl rfl fun _ g h => by have y0 := seen_out rfl rfl h.1; exact tv1 (by simp [go_sem, y0]) rfl
    ·exact gT [83, 84] false 81 rfl rfl rfl fun _ g h => by obtain ⟨_, y0, rfl⟩ := seen_in rfl h.1; obtain ⟨_, y1, rfl⟩ := seen_in rfl h.2.1; exact tv1 (by simp [go_sem, y0, y1, i4]) rfl
    ·exact gT [85] false 81 rfl rfl rfl fun _ g h => by obtain ⟨_, y0, rfl⟩ := seen_in rfl h.1; exact tv1 (by simp [go_sem, y0, f4 g]) rfl
    ·exact gT [5] false 81 rfl rfl rfl fun _ g h => by have y0 := seen_out rfl rfl h.1; exact tv1 (by simp [go_sem, y0]) rfl
    ·exact gT [87] false 81 rfl rfl rfl fun _ g h => by obtain ⟨_, y0, rfl⟩ := seen_in rfl h.1; exact tv1 (by simp [go_sem, y0, e2 g]) rfl
    ·exact gT [9] false 81 rfl rfl rfl fun _ g h => by have y0 := seen_out rfl rfl h.1; exact tv1 (by simp [go_sem, y0]) rfl
    ·exact gT [88, 89] false 81 rfl rfl rfl fun _ g h => by obtain ⟨_, y0, rfl⟩ := seen_in rfl h.1; obtain ⟨_, y1, rfl⟩ := seen_in rfl h.2.1; exact tv1 (by simp [go_sem, y0, y1, i2]) rfl
    ·exact gT [90] false 81 rfl rfl rfl fun _ g h => by obtain ⟨_, y0, rfl⟩ := seen_in rfl h.1; exact tv1 (by simp [go_sem, y0, f6 g]) rfl
    ·exact gT [86, 91] false 81 rfl rfl rfl fun _ g h => by obtain ⟨_, y0, rfl⟩ := seen_in rfl h.1; obtain ⟨_, y1, rfl⟩ := seen_in rfl h.2.1; exact tv1 (by simp [go_sem, y0, y1]) rfl
    ·exact ob_plain [81, 92] rfl rfl fun _ g h => by obtain ⟨_, y0, rfl⟩ := seen_in rfl h.1; obtain ⟨_, y1, rfl⟩ := seen_in rfl h.2.1; exact tv1 (by simp [go_sem, y0, y1]) rfl
   rintro w13 hB13 _ rfl _ rfl _ rfl _ rfl _ rfl _ rfl _ rfl _ rfl _ rfl _ rfl _ rfl _ rfl _ rfl _ rfl _ rfl _ rfl _ rfl _ rfl _ rfl _ rfl _ rfl _ rfl _ rfl _ rfl _ rfl _ rfl
   simp only [Act.put, List.setIfInBounds_toArray, List.set_cons_succ, List.set_cons_zero, List.filterMap_nil, finP]
   have HB13 := Lib.hid (HB.out.trans (hB13.mono HB.out.size))
   clear hB13 d2 e2 f4 f5 f6
   go_wp2_with (fail)
   go_roundw
   case rel => exact ⟨k + 1, by go_num, by omega, HB13⟩
   case measure => simp [intOf]; omega
  ·obtain rfl : N = k := by omega
   have i2 : ¬ (N : Int) < N := by omega
   have HC5 := Lib.hid (HC5.out.grow HB.out)
   have HIC := Lib.hid (HIC.out.grow HB.out)
   have HPC := Lib.hid (HPC.out.grow HB.out)
   have HS := Lib.hid (HS.out.grow HB.out)
   have HSX := Lib.hid (HSX.out.grow HB.out)
   have HLX := Lib.hid (HLX.out.grow grows_nxo HB.out)
   have HW := Lib.hid (below_then HW.out HB.out)
   have hml : (ts.map pre).length = N := by rw [List.length_map, HTL.out]
   obtain ⟨t0, ht0⟩ : ∃ t, ts[0]? = some t := ⟨_, List.getElem?_eq_getElem (by rw [HTL.out]; omega)⟩
   obtain ⟨n1, hn1'⟩ : ∃ n1, N - 1 = n1 := ⟨_, rfl⟩
   have hn1N : n1 + 1 = N := by omega
   have U3 : IntKind.i64.wrap ((N : Int) - 1) = (n1 : Int) := by rw [wrapN _ (by omega) (by omega)]; omega
   clear hn1'
   obtain ⟨tn, htn⟩ : ∃ t, ts[n1]? = some t := ⟨_, List.getElem?_eq_getElem (by rw [HTL.out]; omega)⟩
   have hr0 : (ts.map pre)[0]? = some (pre t0) := by rw [List.getElem?_map, ht0]; rfl
   have hrn : (ts.map pre)[n1]? = some (pre tn) := by rw [List.getElem?_map, htn]; rfl
   obtain ⟨bf, of, u0, hpf, hbf, rd0⟩ := HLX.out.rd grows_nxo hr0
   obtain ⟨bf', of', un, hpf', _, rdn⟩ := HLX.out.rd grows_nxo hrn
   have haf := Option.some.inj hpf
   subst haf
   simp only [Option.some.injEq, Addr.mk.injEq, and_true] at hpf'
   obtain ⟨rfl, rfl⟩ := hpf'
   clear hpf
   have h200a := H200.out t0 (List.mem_of_getElem? ht0)
   have h200b := H200.out tn (List.mem_of_getElem? htn)
   obtain ⟨pa, ca, hua, hca, hcca⟩ := (rd0 ⟨wr, Below.refl _ _⟩).2.2.1.2
   obtain ⟨pb, cb, hub, hcb, hccb⟩ := (rdn ⟨wr, Below.refl _ _⟩).2.2.1.2
   subst hua
   subst hub
   have HT0 := Lib.hid ht0
   have HTN := Lib.hid htn
   have HRD0 := Lib.hid rd0
   have HRDN := Lib.hid rdn
   clear HB ht0 htn hr0 hrn hml
   have ZR := Lib.hid (show (wr.alloc (.cells #[.int .i64 7, .int .i64 0, .int .i64 0, .int .i64 0] 62)).ownsRow wr.heap.size 62 4 (.slice (some ⟨wr.heap.size, 0, none⟩) 1 1) 1 (encN ⟨7, 0, 0, 0⟩) from ⟨rfl, .inr ⟨wr.heap.size, 1, _, rfl, Nat.le_refl _, World.alloc_heap_new wr _, Nat.le_refl _, by decide, rfl, by simp [encN]⟩⟩)
   have hS : Below wr.heap.size wr (wr.alloc (.cells #[.int .i64 7, .int .i64 0, .int .i64 0, .int .i64 0] 62)) := (Below.refl _ _).alloc (Nat.le_refl _) _
   have s1 := heapN_cellj (HS.out.grow hS) (k := 1) rfl
   have f0 := (rd0 ⟨_, hS⟩).2.1
   rw [Nat.add_zero] at f0
   have hnx := (rd0 ⟨_, hS⟩).2.2.1.1
   have i3 : (0 : Int) < N := by omega
   clear rd0 rdn
   go_wp2_with (at_builtin; go_loud (refine wpList_append_nd rfl (.tmp 95) (.tmp 99) rfl wr.heap.size (.slice (some ⟨wr.heap.size, 0, none⟩) 1 1) 1 (encN ⟨7, 0, 0, 0⟩) rfl ZR.out pa ca (pre t0) rfl hnx hcca (by unfold maxLen; omega) (by omega) hS.size ?_))
   intro v7 w7 hown7 hgrow
   have hB7 := hS.grown hgrow hS.size (fun k hk => (ZR.out.lt k hk).1)
   obtain ⟨p7, c7, rfl⟩ := own_cut hown7
   have HO7 := Lib.hid hown7
   have HB7 := Lib.hid hB7
   have s1 := heapN_cellj (HS.out.grow hB7) (k := 1) rfl
   have f1 : w7.cell? ⟨bf, of + n1, none⟩ = some (.slice pb (pre tn).length cb) := (HRDN.out ⟨_, hB7⟩).2.1
   have hnx2 : Nx w7 (.slice pb (pre tn).length cb) (pre tn) := (HRDN.out ⟨_, hB7⟩).2.2.1.1
   have i4 : (n1 : Int) < N := by omega
   clear hown7 hgrow hB7 f0 hnx hS ZR
   go_wp2_with (at_builtin; go_loud (refine wpList_append_nd rfl (.tmp 101) (.tmp 107) rfl wr.heap.size (.slice p7 (1 + (pre t0).length) c7) (1 + (pre t0).length) _ rfl HO7.out pb cb (pre tn) rfl hnx2 hccb (by unfold maxLen; omega) (by omega) HB7.out.size ?_))
   intro v8 w8 hown8 hgrow
   have hB8 := HB7.out.grown hgrow HB7.out.size (fun k hk => (HO7.out.lt k hk).1)
   obtain ⟨p8, c8, rfl⟩ := own_cut hown8
   obtain ⟨Q, hQ⟩ : ∃ Q, 1 + (pre t0).length + (pre tn).length = Q := ⟨_, rfl⟩
   have hQs : (pre (sumT t0 tn)).length = Q := by
    unfold sumT
    simp only [pre, List.length_cons, List.length_append]
    omega
   have hcr : encN ⟨7, 0, 0, 0⟩ ++ (cr encN (pre t0) ++ cr encN (pre tn)) = cr encN (pre (sumT t0 tn)) := by
    unfold sumT
    simp [pre, cr]
   rw [hQ] at hown8 ⊢
   rw [hcr, ← hQs] at hown8
   have hnso := nxo_own hown8 (by rw [hQs]; unfold maxLen; omega)
   rw [hQs] at hnso
   have HNS := Lib.hid hnso
   have HQS := Lib.hid hQs
   have HC5 := Lib.hid (HC5.out.grow hB8)
   have HIC := Lib.hid (HIC.out.grow hB8)
   have HPC := Lib.hid (HPC.out.grow hB8)
   have HS := Lib.hid (HS.out.grow hB8)
   have HSX := Lib.hid (HSX.out.grow hB8)
   have HLX := Lib.hid (HLX.out.grow grows_nxo hB8)
   have HW := Lib.hid (below_then HW.out hB8)
   clear hown8 hgrow hB8 hQs hQ hcr hnso HO7 HB7 s1 f1 hnx2 HRD0 HRDN hcca hccb hca hcb h200a h200b
   by_cases hG : 200 < Q
   ·have i7 : (Q : Int) > 200 := by omega
    go_wp2_with (fail)
    go_ret
    exact ⟨rfl, HW.out⟩
   have i7 : ¬ (Q : Int) > 200 := by omega
   go_wp2_with (fail)
   obtain ⟨af2, us2, haf2, hul2, huN2, hcU2, hoU2, hxU2⟩ := lx_us HLX.out hN1
   have haf2' := Option.some.inj haf2
   subst haf2'
   obtain ⟨hnN2, hcN2⟩ := rx_news (enc := encS) (sz := 1) (fun _ => rfl) (l := nms.take N) (by have h := HSX.out; rw [nms_len hN3]; exact h)
   have hnN3 : pn = none → N = 0 ∧ cn = 0 := fun e => by
    have h := hnN2 e
    have := nms_len hN3
    rw [h] at this
    exact absurd this (by show ¬ (0 = N); omega)
   have HXU2 := Lib.hid hxU2
   have HUN2 := Lib.hid huN2
   obtain ⟨is0, his, hss0, hss1, hss2⟩ := info_parts info_str
   obtain ⟨in0, hin, hns0, hns1, hns2⟩ := info_parts info_ns
   have s0 := fun g : Grown w8 => heapN_cellj (HS.out.grow g.h) (k := 0) rfl
   have s1 := fun g : Grown w8 => heapN_cellj (HS.out.grow g.h) (k := 1) rfl
   clear haf2 hul2 huN2 hxU2 hnN2
   refine region_pred_h (fun σ_ => lk [(113, fun z_ w' => if σ_ 3 = true then True else ∃ p_ c_ B_, z_ = .slice p_ (0) c_ ∧ w8.heap.size ≤ B_ ∧ w'.ownsRow B_ 9 1 (.slice p_ (0) c_) (0) ([])), (114, fun z_ _ => z_ = .pointer (some ⟨w3.heap.size, 0, none⟩)), (115, fun z_ _ => z_ = .slice pn N cn), (116, fun z_ w' => if σ_ 5 = true then True else (σ_ 3 = true ∧ True) ∧ ∃ p_ c_ B_, z_ = .slice p_ (0 + N) c_ ∧ w8.heap.size ≤ B_ ∧ w'.ownsRow B_ 9 1 (.slice p_ (0 + N) c_) (0 + N) ([] ++ cr encS (nms.take N))), (117, fun z_ w' => ∃ X_, z_ = .slice (some ⟨X_, 0, none⟩) 1 1 ∧ w8.heap.size ≤ X_ ∧ w'.heap[X_]? = some (.cells #[.string ⟨#[97]⟩] 9 (0, 0))), (118, fun z_ w' => (σ_ 3 = true ∧ σ_ 5 = true ∧ True) ∧ ∃ p_ c_ B_, z_ = .slice p_ (0 + N + 1) c_ ∧ w8.heap.size ≤ B_ ∧ w'.ownsRow B_ 9 1 (.slice p_ (0 + N + 1) c_) (0 + N + 1) ([] ++ cr encS (nms.take N) ++ [.string ⟨#[97]⟩])), (119, fun z_ w' => if σ_ 9 = true then True else ∃ p_ c_ B_, z_ = .slice p_ (0) c_ ∧ w8.heap.size ≤ B_ ∧ w'.ownsRow B_ 54 1 (.slice p_ (0) c_) (0) ([])), (120, fun z_ _ => z_ = .pointer (some ⟨w3.heap.size, 1, none⟩)), (121, fun z_ _ => z_ = .slice (some ⟨bf, of, none⟩) N cf), (122, fun z_ w' => if σ_ 12 = true then True else (σ_ 9 = true ∧ True) ∧ ∃ p_ c_ B_, z_ = .slice p_ (0 + N) c_ ∧ w8.heap.size ≤ B_ ∧ w'.ownsRow B_ 54 1 (.slice p_ (0 + N) c_) (0 + N) ([] ++ us2)), (123, fun z_ _ => z_ = .slice p8 Q c8), (124, fun z_ w' => ∃ X_, z_ = .slice (some ⟨X_, 0, none⟩) 1 1 ∧ w8.heap.size ≤ X_ ∧ w'.heap[X_]? = some (.cells #[.slice p8 Q c8] 54 (0, 0))), (125, fun z_ w' => (σ_ 9 = true ∧ σ_ 12 = true ∧ True) ∧ ∃ p_ c_ B_, z_ = .slice p_ (0 + N + 1) c_ ∧ w8.heap.size ≤ B_ ∧ w'.ownsRow B_ 54 1 (.slice p_ (0 + N + 1) c_) (0 + N + 1) ([] ++ us2 ++ [.slice p8 Q c8])), (126, fun z_ w' => (σ_ 3 = true ∧ σ_ 5 = true ∧ σ_ 9 = true ∧ σ_ 12 = true ∧ True) ∧ ∃ p_ c_ q_ d_, z_ = .agg #[.slice p_ (0 + N + 1) c_, .slice q_ (0 + N + 1) d_] ∧ w'.ownsRow w8.heap.size 9 1 (.slice p_ (0 + N + 1) c_) (0 + N + 1) ([] ++ cr encS (nms.take N) ++ [.string ⟨#[97]⟩]) ∧ w'.ownsRow w8.heap.size 54 1 (.slice q_ (0 + N + 1) d_) (0 + N + 1) ([] ++ us2 ++ [.slice p8 Q c8])), (11, fun z_ w' => ∃ X_, z_ = .pointer (some ⟨X_, 0, none⟩) ∧ w8.heap.size ≤ X_ ∧ w'.heap[X_]? = some (.cells #[(.slice none 0 0), (.slice none 0 0)] 38 (0, 0)))]) (kk [(113, Value.ownBlock), (116, Value.ownBlock), (117, Value.ownBlock), (118, Value.ownBlock), (119, Value.ownBlock), (122, Value.ownBlock), (124, Value.ownBlock), (125, Value.ownBlock), (11, ptrK)]) [] [(3, 113), (5, 116), (9, 119), (12, 122)] 15 [] (by kernel_rfl) (by kernel_rfl) (by intro x hx; cases hx) (fun σ_ => lk_steady _ ⟨fun u w1 w2 hb h => ifN (fun _ ⟨p, c, B, e, h1, h2⟩ => ⟨p, c, B, e, h1, own_keptN h2 hb⟩) h, steady_eq _, steady_eq _, fun u w1 w2 hb h => ifN (fun _ ⟨hfl, p, c, B, e, h1, h2⟩ => ⟨hfl, p, c, B, e, h1, own_keptN h2 hb⟩) h, fun u w1 w2 hb ⟨X, e, h1, h2⟩ => ⟨X, e, h1, (hb.block X (Array.getElem?_eq_some_iff.1 h2).1).trans h2⟩, fun u w1 w2 hb ⟨hfl, p, c, B, e, h1, h2⟩ => ⟨hfl, p, c, B, e, h1, own_keptN h2 hb⟩, fun u w1 w2 hb h => ifN (fun _ ⟨p, c, B, e, h1, h2⟩ => ⟨p, c, B, e, h1, own_keptN h2 hb⟩) h, steady_eq _, steady_eq _, fun u w1 w2 hb h => ifN (fun _ ⟨hfl, p, c, B, e, h1, h2⟩ => ⟨hfl, p, c, B, e, h1, own_keptN h2 hb⟩) h, steady_eq _, fun u w1 w2 hb ⟨X, e, h1, h2⟩ => ⟨X, e, h1, (hb.block X (Array.getElem?_eq_some_iff.1 h2).1).trans h2⟩, fun u w1 w2 hb ⟨hfl, p, c, B, e, h1, h2⟩ => ⟨hfl, p, c, B, e, h1, own_keptN h2 hb⟩, fun u w1 w2 hb ⟨hfl, p, c, q, d, e, h1, h2⟩ => ⟨hfl, p, c, q, d, e, own_keptN h1 hb, own_keptN h2 hb⟩, fun u w1 w2 hb ⟨X, e, h1, h2⟩ => ⟨X, e, h1, (hb.block X (Array.getElem?_eq_some_iff.1 h2).1).trans h2⟩, trivial⟩) ?_ ?_ (by intro i p os hm; cases hm) ?_ ?_
   ·intro σ_ t v w b h hb
    have hf := kA_free hb
    refine kk_lt (fun x hx e hl hb2 => ?_) h (kA_le hb)
    simp only [List.mem_cons, List.not_mem_nil, or_false] at hx
    rcases hx with rfl | rfl | rfl | rfl | rfl | rfl | rfl | rfl | rfl
    ·subst e; obtain ⟨p, c, B, rfl, hB, ho⟩ := (ifF (not_cons (i := 3) hf (by decide)) hl); exact (ho.lt b hb2).2
    ·subst e; obtain ⟨⟨hf3, -⟩, p, c, B, rfl, hB, ho⟩ := (ifF (not_cons (i := 5) hf (by decide)) hl); exact (ho.lt b hb2).2
    ·subst e; obtain ⟨X, rfl, hX, hI⟩ := hl; obtain rfl : X = b := Option.some.inj hb2; exact (Array.getElem?_eq_some_iff.1 hI).1
    ·subst e; obtain ⟨⟨hf3, hf5, -⟩, p, c, B, rfl, hB, ho⟩ := hl; exact (ho.lt b hb2).2
    ·subst e; obtain ⟨p, c, B, rfl, hB, ho⟩ := (ifF (not_cons (i := 9) hf (by decide)) hl); exact (ho.lt b hb2).2
    ·subst e; obtain ⟨⟨hf9, -⟩, p, c, B, rfl, hB, ho⟩ := (ifF (not_cons (i := 12) hf (by decide)) hl); exact (ho.lt b hb2).2
    ·subst e; obtain ⟨X, rfl, hX, hI⟩ := hl; obtain rfl : X = b := Option.some.inj hb2; exact (Array.getElem?_eq_some_iff.1 hI).1
    ·subst e; obtain ⟨⟨hf9, hf12, -⟩, p, c, B, rfl, hB, ho⟩ := hl; exact (ho.lt b hb2).2
    ·subst e; obtain ⟨X, rfl, hX, hI⟩ := hl; obtain rfl : X = b := Option.some.inj hb2; exact (Array.getElem?_eq_some_iff.1 hI).1
   ·refine ⟨?_, ?_, ?_, ?_, ?_, ?_, ?_, ?_, ?_, ?_, ?_, ?_, ?_, ?_, ?_, ?_, trivial⟩
    ·exact fun _ _ _ σ_ hσ => oblg_plain [] rfl rfl fun aa g h => by exact tupon_value (v := .slice (some ⟨g.w.heap.size, 0, none⟩) 0 0) (w1 := g.w.alloc (.cells #[] 9)) (by simp [go_sem]) ((Below.refl _ _).alloc (Nat.le_refl _) _) ⟨(ifI ⟨_, _, _, rfl, g.h.size, own_empG _ 9 1⟩), fun d b hd hb => by cases hd; obtain rfl := Option.some.inj hb; exact Nat.le_refl _⟩
    ·exact fun _ _ _ σ_ hσ => oblg_of (ob_plain [4] rfl rfl fun _ g h => by have y0 := seen_out rfl rfl h.1; exact tv1 (by simp [go_sem, y0]) rfl) fun d v hd => by cases hd; rfl
    ·exact fun _ _ _ σ_ hσ => oblg_of (ob_plain [114] rfl rfl fun _ g h => by obtain ⟨_, y0, rfl⟩ := seen_in rfl h.1; exact tv1 (by simp [go_sem, y0, s0 g]) rfl) fun d v hd => by cases hd; rfl
    ·exact fun _ h => absurd h (by decide)
    ·exact fun _ _ _ σ_ hσ => oblg_plain [] rfl rfl fun aa g h => by exact tupon_value (v := .slice (some ⟨g.w.heap.size, 0, none⟩) 1 1) (w1 := g.w.alloc (.cells #[.string ⟨#[97]⟩] 9)) (by simp [go_sem]) ((Below.refl _ _).alloc (Nat.le_refl _) _) ⟨⟨_, rfl, g.h.size, World.alloc_heap_new _ _⟩, fun d b hd hb => by cases hd; obtain rfl := Option.some.inj hb; exact Nat.le_refl _⟩
    ·exact fun _ h => absurd h (by decide)
    ·exact fun _ _ _ σ_ hσ => oblg_plain [] rfl rfl fun aa g h => by exact tupon_value (v := .slice (some ⟨g.w.heap.size, 0, none⟩) 0 0) (w1 := g.w.alloc (.cells #[] 54)) (by simp [go_sem]) ((Below.refl _ _).alloc (Nat.le_refl _) _) ⟨(ifI ⟨_, _, _, rfl, g.h.size, own_empG _ 54 1⟩), fun d b hd hb => by cases hd; obtain rfl := Option.some.inj hb; exact Nat.le_refl _⟩
    ·exact fun _ _ _ σ_ hσ => oblg_of (ob_plain [4] rfl rfl fun _ g h => by have y0 := seen_out rfl rfl h.1; exact tv1 (by simp [go_sem, y0]) rfl) fun d v hd => by cases hd; rfl
    ·exact fun _ _ _ σ_ hσ => oblg_of (ob_plain [120] rfl rfl fun _ g h => by obtain ⟨_, y0, rfl⟩ := seen_in rfl h.1; exact tv1 (by simp [go_sem, y0, s1 g]) rfl) fun d v hd => by cases hd; rfl
    ·exact fun _ h => absurd h (by decide)
    ·exact fun _ _ _ σ_ hσ => oblg_of (ob_plain [10] rfl rfl fun _ g h => by have y0 := seen_out rfl rfl h.1; exact tv1 (by simp [go_sem, y0]) rfl) fun d v hd => by cases hd; rfl
    ·exact fun _ _ _ σ_ hσ => oblg_plain [123] rfl rfl fun aa g h => by obtain ⟨_, y0, rfl⟩ := seen_in rfl h.1; exact tupon_value (v := .slice (some ⟨g.w.heap.size, 0, none⟩) 1 1) (w1 := g.w.alloc (.cells #[.slice p8 Q c8] 54)) (by simp [go_sem, y0]) ((Below.refl _ _).alloc (Nat.le_refl _) _) ⟨⟨_, rfl, g.h.size, World.alloc_heap_new _ _⟩, fun d b hd hb => by cases hd; obtain rfl := Option.some.inj hb; exact Nat.le_refl _⟩
    ·exact fun _ h => absurd h (by decide)
    ·exact fun _ _ _ σ_ hσ => oblg_of (ob_plain [118, 125] rfl rfl fun _ g h => by obtain ⟨_, y0, ⟨⟨hf3, hf5, -⟩, p118, c118, B118, rfl, hB118, ho118⟩⟩ := seen_in rfl h.1; obtain ⟨_, y1, ⟨⟨hf9, hf12, -⟩, p125, c125, B125, rfl, hB125, ho125⟩⟩ := seen_in rfl h.2.1; exact tv1 (v := .agg #[.slice p118 (0 + N + 1) c118, .slice p125 (0 + N + 1) c125]) (by simp [go_sem, y0, y1]) ⟨⟨hf3, hf5, hf9, hf12, trivial⟩, p118, c118, p125, c125, rfl, own_base ho118 hB118, own_base ho125 hB125⟩) fun d v hd => by cases hd; rfl
    ·exact fun _ _ _ σ_ hσ => oblg_plain [] rfl rfl fun aa g h => by exact tupon_value (v := .pointer (some ⟨g.w.heap.size, 0, none⟩)) (w1 := g.w.alloc (.cells #[(.slice none 0 0), (.slice none 0 0)] 38)) (by simp [go_sem]) ((Below.refl _ _).alloc (Nat.le_refl _) _) ⟨⟨_, rfl, g.h.size, World.alloc_heap_new _ _⟩, fun d b hd hb => by cases hd; obtain rfl := Option.some.inj hb; exact Nat.le_refl _⟩
    ·exact fun _ _ h => absurd rfl h
   ·intro i p os hm hos
    simp only [List.mem_cons, List.not_mem_nil, or_false, Prod.mk.injEq] at hm
    rcases hm with ⟨rfl, rfl⟩ | ⟨rfl, rfl⟩ | ⟨rfl, rfl⟩ | ⟨rfl, rfl⟩
    ·obtain rfl := Option.some.inj hos
     intro σ_ aa gg d hd hσ h
     obtain rfl := Option.some.inj hd
     obtain ⟨v0, r0, hx0⟩ := seen_in rfl h.1
     obtain ⟨p0, c0, B0, rfl, hB0, ho0⟩ := ifF hσ hx0
     obtain ⟨_, r1, rfl⟩ := seen_in rfl h.2.1
     refine app_go gg (.tmp 113) (.tmp 115) 35 9 is0 (.string ByteArray.empty) 1 16 rfl Try.underlying35 his hss0 hss1 hss2 rfl (by decide) (.slice p0 (0) c0) (0) ([]) (by simp [Act.eval, r0]) (own_base ho0 hB0) pn (N) cn (cr encS (nms.take N)) (by simp [Act.eval, r1]) hnN3 (by rw [strs_len, nms_len hN3, Nat.mul_one]) (fun ad e j u hj => rx_at' (hcN2 ad e j u hj) gg) (strs_one _) (by unfold maxLen; omega) (by omega) ?_
     intro p' c' w' hown' hgrow hblk
     refine ⟨fun t v ht hv hne hΦ => lk_pair ?_ hΦ, ?_, fun b hb => (hblk b hb).imp id (fun h0 => ⟨_, r0, ((kO (by decide) hσ).trans h0)⟩)⟩
     ·refine ⟨rfl, ?_, rfl, fun _ h => h, rfl, fun _ h => h, rfl, ?_, rfl, ?_, rfl, ?_, rfl, ?_, rfl, fun _ h => h, rfl, fun _ h => h, rfl, ?_, rfl, fun _ h => h, rfl, ?_, rfl, ?_, rfl, ?_, rfl, ?_, trivial⟩
      ·intro e hx; subst e; rw [if_pos (updS_self _ _)]; trivial
      ·exact fun e _ => absurd e.symm ht
      ·intro e hx; subst e; exact litK hgrow hx fun X e h0 => hne (by decide) _ X r0 ((kO (by decide) hσ).trans h0) ((kN (by decide)).trans (by rw [e]; rfl))
      ·intro e hx; subst e; obtain ⟨⟨hf3, hf5, -⟩, _⟩ := hx; exact absurd (hσ.symm.trans hf3) Bool.false_ne_true
      ·intro e hx; subst e; refine ifU (by decide) (fun hj hx => ?_) hx; exact ownK hgrow hx fun b hb e2 => hne (by decide) _ b r0 ((kO (by decide) hσ).trans hb) ((kO (by decide) hj).trans e2)
      ·intro e hx; subst e; refine ifU (by decide) (fun hj hx => ?_) hx; obtain ⟨⟨hf9, -⟩, hx⟩ := hx; exact ⟨⟨updS_mono hf9, trivial⟩, ownK hgrow hx fun b hb e2 => hne (by decide) _ b r0 ((kO (by decide) hσ).trans hb) ((kO (by decide) hj).trans e2)⟩
      ·intro e hx; subst e; exact litK hgrow hx fun X e h0 => hne (by decide) _ X r0 ((kO (by decide) hσ).trans h0) ((kN (by decide)).trans (by rw [e]; rfl))
      ·intro e hx; subst e; obtain ⟨⟨hf9, hf12, -⟩, hx⟩ := hx; exact ⟨⟨updS_mono hf9, updS_mono hf12, trivial⟩, ownK hgrow hx fun b hb e2 => hne (by decide) _ b r0 ((kO (by decide) hσ).trans hb) ((kN (by decide)).trans e2)⟩
      ·intro e hx; subst e; obtain ⟨⟨hf3, hf5, hf9, hf12, -⟩, _⟩ := hx; exact absurd (hσ.symm.trans hf3) Bool.false_ne_true
      ·intro e hx; subst e; exact litK hgrow hx fun X e h0 => hne (by decide) _ X r0 ((kO (by decide) hσ).trans h0) ((kN (by decide)).trans (by rw [e]; rfl))
     ·show (fun (z_ : Value) (w' : World) => if (updS σ_ 3) 5 = true then True else ((updS σ_ 3) 3 = true ∧ True) ∧ ∃ p_ c_ B_, z_ = .slice p_ (0 + N) c_ ∧ w8.heap.size ≤ B_ ∧ w'.ownsRow B_ 9 1 (.slice p_ (0 + N) c_) (0 + N) ([] ++ cr encS (nms.take N))) (.slice p' (0 + N) c') w'
      exact ifI ⟨⟨updS_self _ _, trivial⟩, p', c', _, rfl, Nat.le_refl _, hown'⟩
    ·obtain rfl := Option.some.inj hos
     intro σ_ aa gg d hd hσ h
     obtain rfl := Option.some.inj hd
     obtain ⟨v0, r0, hx0⟩ := seen_in rfl h.1
     obtain ⟨⟨hf3, -⟩, p0, c0, B0, rfl, hB0, ho0⟩ := ifF hσ hx0
     obtain ⟨_, r1, ⟨X117, rfl, hX117, hI117⟩⟩ := seen_in rfl h.2.1
     refine app_go gg (.tmp 116) (.tmp 117) 35 9 is0 (.string ByteArray.empty) 1 16 rfl Try.underlying35 his hss0 hss1 hss2 rfl (by decide) (.slice p0 (0 + N) c0) (0 + N) ([] ++ cr encS (nms.take N)) (by simp [Act.eval, r0]) (own_base ho0 hB0) (some ⟨X117, 0, none⟩) (1) 1 ([.string ⟨#[97]⟩]) (by simp [Act.eval, r1]) (fun e => by cases e) rfl (fun ad e j u hj => by obtain rfl := Option.some.inj e; exact a_at hI117 hj) (fun u hu => by simp only [List.mem_cons, List.not_mem_nil, or_false] at hu; subst hu; rfl) (by unfold maxLen; omega) (by omega) ?_
     intro p' c' w' hown' hgrow hblk
     refine ⟨fun t v ht hv hne hΦ => lk_pair ?_ hΦ, ?_, fun b hb => (hblk b hb).imp id (fun h0 => ⟨_, r0, ((kO (by decide) hσ).trans h0)⟩)⟩
     ·refine ⟨rfl, ?_, rfl, fun _ h => h, rfl, fun _ h => h, rfl, ?_, rfl, ?_, rfl, ?_, rfl, ?_, rfl, fun _ h => h, rfl, fun _ h => h, rfl, ?_, rfl, fun _ h => h, rfl, ?_, rfl, ?_, rfl, ?_, rfl, ?_, trivial⟩
      ·intro e hx; subst e; refine ifU (by decide) (fun hj hx => ?_) hx; exact ownK hgrow hx fun b hb e2 => hne (by decide) _ b r0 ((kO (by decide) hσ).trans hb) ((kO (by decide) hj).trans e2)
      ·intro e hx; subst e; rw [if_pos (updS_self _ _)]; trivial
      ·intro e hx; subst e; exact litK hgrow hx fun X e h0 => hne (by decide) _ X r0 ((kO (by decide) hσ).trans h0) ((kN (by decide)).trans (by rw [e]; rfl))
      ·exact fun e _ => absurd e.symm ht
      ·intro e hx; subst e; refine ifU (by decide) (fun hj hx => ?_) hx; exact ownK hgrow hx fun b hb e2 => hne (by decide) _ b r0 ((kO (by decide) hσ).trans hb) ((kO (by decide) hj).trans e2)
      ·intro e hx; subst e; refine ifU (by decide) (fun hj hx => ?_) hx; obtain ⟨⟨hf9, -⟩, hx⟩ := hx; exact ⟨⟨updS_mono hf9, trivial⟩, ownK hgrow hx fun b hb e2 => hne (by decide) _ b r0 ((kO (by decide) hσ).trans hb) ((kO (by decide) hj).trans e2)⟩
      ·intro e hx; subst e; exact litK hgrow hx fun X e h0 => hne (by decide) _ X r0 ((kO (by decide) hσ).trans h0) ((kN (by decide)).trans (by rw [e]; rfl))
      ·intro e hx; subst e; obtain ⟨⟨hf9, hf12, -⟩, hx⟩ := hx; exact ⟨⟨updS_mono hf9, updS_mono hf12, trivial⟩, ownK hgrow hx fun b hb e2 => hne (by decide) _ b r0 ((kO (by decide) hσ).trans hb) ((kN (by decide)).trans e2)⟩
      ·intro e hx; subst e; obtain ⟨⟨hf3, hf5, hf9, hf12, -⟩, _⟩ := hx; exact absurd (hσ.symm.trans hf5) Bool.false_ne_true
      ·intro e hx; subst e; exact litK hgrow hx fun X e h0 => hne (by decide) _ X r0 ((kO (by decide) hσ).trans h0) ((kN (by decide)).trans (by rw [e]; rfl))
     ·show (fun (z_ : Value) (w' : World) => ((updS σ_ 5) 3 = true ∧ (updS σ_ 5) 5 = true ∧ True) ∧ ∃ p_ c_ B_, z_ = .slice p_ (0 + N + 1) c_ ∧ w8.heap.size ≤ B_ ∧ w'.ownsRow B_ 9 1 (.slice p_ (0 + N + 1) c_) (0 + N + 1) ([] ++ cr encS (nms.take N) ++ [.string ⟨#[97]⟩])) (.slice p' (0 + N + 1) c') w'
      exact ⟨⟨updS_mono hf3, updS_self _ _, trivial⟩, p', c', _, rfl, Nat.le_refl _, hown'⟩
    ·obtain rfl := Option.some.inj hos
     intro σ_ aa gg d hd hσ h
     obtain rfl := Option.some.inj hd
     obtain ⟨v0, r0, hx0⟩ := seen_in rfl h.1
     obtain ⟨p0, c0, B0, rfl, hB0, ho0⟩ := ifF hσ hx0
     obtain ⟨_, r1, rfl⟩ := seen_in rfl h.2.1
     refine app_go gg (.tmp 119) (.tmp 121) 36 54 in0 (.slice none 0 0) 1 24 rfl Try.underlying36 hin hns0 hns1 hns2 rfl (by decide) (.slice p0 (0) c0) (0) ([]) (by simp [Act.eval, r0]) (own_base ho0 hB0) (some ⟨bf, of, none⟩) (N) cf (us2) (by simp [Act.eval, r1]) (fun e => by cases e) (by rw [HUN2.out, Nat.mul_one]) (fun ad e j u hj => by obtain rfl := Option.some.inj e; exact rx_at' (hcU2 j u hj) gg) hoU2 (by unfold maxLen; omega) (by omega) ?_
     intro p' c' w' hown' hgrow hblk
     refine ⟨fun t v ht hv hne hΦ => lk_pair ?_ hΦ, ?_, fun b hb => (hblk b hb).imp id (fun h0 => ⟨_, r0, ((kO (by decide) hσ).trans h0)⟩)⟩
     ·refine ⟨rfl, ?_, rfl, fun _ h => h, rfl, fun _ h => h, rfl, ?_, rfl, ?_, rfl, ?_, rfl, ?_, rfl, fun _ h => h, rfl, fun _ h => h, rfl, ?_, rfl, fun _ h => h, rfl, ?_, rfl, ?_, rfl, ?_, rfl, ?_, trivial⟩
      ·intro e hx; subst e; refine ifU (by decide) (fun hj hx => ?_) hx; exact ownK hgrow hx fun b hb e2 => hne (by decide) _ b r0 ((kO (by decide) hσ).trans hb) ((kO (by decide) hj).trans e2)
      ·intro e hx; subst e; refine ifU (by decide) (fun hj hx => ?_) hx; obtain ⟨⟨hf3, -⟩, hx⟩ := hx; exact ⟨⟨updS_mono hf3, trivial⟩, ownK hgrow hx fun b hb e2 => hne (by decide) _ b r0 ((kO (by decide) hσ).trans hb) ((kO (by decide) hj).trans e2)⟩
      ·intro e hx; subst e; exact litK hgrow hx fun X e h0 => hne (by decide) _ X r0 ((kO (by decide) hσ).trans h0) ((kN (by decide)).trans (by rw [e]; rfl))
      ·intro e hx; subst e; obtain ⟨⟨hf3, hf5, -⟩, hx⟩ := hx; exact ⟨⟨updS_mono hf3, updS_mono hf5, trivial⟩, ownK hgrow hx fun b hb e2 => hne (by decide) _ b r0 ((kO (by decide) hσ).trans hb) ((kN (by decide)).trans e2)⟩
      ·intro e hx; subst e; rw [if_pos (updS_self _ _)]; trivial
      ·exact fun e _ => absurd e.symm ht
      ·intro e hx; subst e; exact litK hgrow hx fun X e h0 => hne (by decide) _ X r0 ((kO (by decide) hσ).trans h0) ((kN (by decide)).trans (by rw [e]; rfl))
      ·intro e hx; subst e; obtain ⟨⟨hf9, hf12, -⟩, _⟩ := hx; exact absurd (hσ.symm.trans hf9) Bool.false_ne_true
      ·intro e hx; subst e; obtain ⟨⟨hf3, hf5, hf9, hf12, -⟩, _⟩ := hx; exact absurd (hσ.symm.trans hf9) Bool.false_ne_true
      ·intro e hx; subst e; exact litK hgrow hx fun X e h0 => hne (by decide) _ X r0 ((kO (by decide) hσ).trans h0) ((kN (by decide)).trans (by rw [e]; rfl))
     ·show (fun (z_ : Value) (w' : World) => if (updS σ_ 9) 12 = true then True else ((updS σ_ 9) 9 = true ∧ True) ∧ ∃ p_ c_ B_, z_ = .slice p_ (0 + N) c_ ∧ w8.heap.size ≤ B_ ∧ w'.ownsRow B_ 54 1 (.slice p_ (0 + N) c_) (0 + N) ([] ++ us2)) (.slice p' (0 + N) c') w'
      exact ifI ⟨⟨updS_self _ _, trivial⟩, p', c', _, rfl, Nat.le_refl _, hown'⟩
    ·obtain rfl := Option.some.inj hos
     intro σ_ aa gg d hd hσ h
     obtain rfl := Option.some.inj hd
     obtain ⟨v0, r0, hx0⟩ := seen_in rfl h.1
     obtain ⟨⟨hf9, -⟩, p0, c0, B0, rfl, hB0, ho0⟩ := ifF hσ hx0
     obtain ⟨_, r1, ⟨X124, rfl, hX124, hI124⟩⟩ := seen_in rfl h.2.1
     refine app_go gg (.tmp 122) (.tmp 124) 36 54 in0 (.slice none 0 0) 1 24 rfl Try.underlying36 hin hns0 hns1 hns2 rfl (by decide) (.slice p0 (0 + N) c0) (0 + N) ([] ++ us2) (by simp [Act.eval, r0]) (own_base ho0 hB0) (some ⟨X124, 0, none⟩) (1) 1 ([.slice p8 Q c8]) (by simp [Act.eval, r1]) (fun e => by cases e) rfl (fun ad e j u hj => by obtain rfl := Option.some.inj e; exact a_at hI124 hj) (fun u hu => by simp only [List.mem_cons, List.not_mem_nil, or_false] at hu; subst hu; rfl) (by unfold maxLen; omega) (by omega) ?_
     intro p' c' w' hown' hgrow hblk
     refine ⟨fun t v ht hv hne hΦ => lk_pair ?_ hΦ, ?_, fun b hb => (hblk b hb).imp id (fun h0 => ⟨_, r0, ((kO (by decide) hσ).trans h0)⟩)⟩
     ·refine ⟨rfl, ?_, rfl, fun _ h => h, rfl, fun _ h => h, rfl, ?_, rfl, ?_, rfl, ?_, rfl, ?_, rfl, fun _ h => h, rfl, fun _ h => h, rfl, ?_, rfl, fun _ h => h, rfl, ?_, rfl, ?_, rfl, ?_, rfl, ?_, trivial⟩
      ·intro e hx; subst e; refine ifU (by decide) (fun hj hx => ?_) hx; exact ownK hgrow hx fun b hb e2 => hne (by decide) _ b r0 ((kO (by decide) hσ).trans hb) ((kO (by decide) hj).trans e2)
      ·intro e hx; subst e; refine ifU (by decide) (fun hj hx => ?_) hx; obtain ⟨⟨hf3, -⟩, hx⟩ := hx; exact ⟨⟨updS_mono hf3, trivial⟩, ownK hgrow hx fun b hb e2 => hne (by decide) _ b r0 ((kO (by decide) hσ).trans hb) ((kO (by decide) hj).trans e2)⟩
      ·intro e hx; subst e; exact litK hgrow hx fun X e h0 => hne (by decide) _ X r0 ((kO (by decide) hσ).trans h0) ((kN (by decide)).trans (by rw [e]; rfl))
      ·intro e hx; subst e; obtain ⟨⟨hf3, hf5, -⟩, hx⟩ := hx; exact ⟨⟨updS_mono hf3, updS_mono hf5, trivial⟩, ownK hgrow hx fun b hb e2 => hne (by decide) _ b r0 ((kO (by decide) hσ).trans hb) ((kN (by decide)).trans e2)⟩
      ·intro e hx; subst e; refine ifU (by decide) (fun hj hx => ?_) hx; exact ownK hgrow hx fun b hb e2 => hne (by decide) _ b r0 ((kO (by decide) hσ).trans hb) ((kO (by decide) hj).trans e2)
      ·intro e hx; subst e; rw [if_pos (updS_self _ _)]; trivial
      ·intro e hx; subst e; exact litK hgrow hx fun X e h0 => hne (by decide) _ X r0 ((kO (by decide) hσ).trans h0) ((kN (by decide)).trans (by rw [e]; rfl))
      ·exact fun e _ => absurd e.symm ht
      ·intro e hx; subst e; obtain ⟨⟨hf3, hf5, hf9, hf12, -⟩, _⟩ := hx; exact absurd (hσ.symm.trans hf12) Bool.false_ne_true
      ·intro e hx; subst e; exact litK hgrow hx fun X e h0 => hne (by decide) _ X r0 ((kO (by decide) hσ).trans h0) ((kN (by decide)).trans (by rw [e]; rfl))
     ·show (fun (z_ : Value) (w' : World) => ((updS σ_ 12) 9 = true ∧ (updS σ_ 12) 12 = true ∧ True) ∧ ∃ p_ c_ B_, z_ = .slice p_ (0 + N + 1) c_ ∧ w8.heap.size ≤ B_ ∧ w'.ownsRow B_ 54 1 (.slice p_ (0 + N + 1) c_) (0 + N + 1) ([] ++ us2 ++ [.slice p8 Q c8])) (.slice p' (0 + N + 1) c') w'
      exact ⟨⟨updS_mono hf9, updS_self _ _, trivial⟩, p', c', _, rfl, Nat.le_refl _, hown'⟩
   rintro w14 hB14 v113 - _ rfl _ rfl v116 - _ ⟨X117, rfl, hX117, hI117⟩ _ ⟨⟨hf3, hf5, -⟩, p118, c118, B118, rfl, hB118, ho118⟩ v119 - _ rfl _ rfl v122 - _ rfl _ ⟨X124, rfl, hX124, hI124⟩ _ ⟨⟨hf9, hf12, -⟩, p125, c125, B125, rfl, hB125, ho125⟩ _ ⟨⟨hf3, hf5, hf9, hf12, -⟩, p126, c126, q126, d126, rfl, ha126, hb126⟩ _ ⟨X11, rfl, hX11, hI11⟩
   simp only [Act.put, List.setIfInBounds_toArray, List.set_cons_succ, List.set_cons_zero, List.filterMap_nil, finP]
   intro hdis hcp
   simp only [Nat.zero_add, List.nil_append] at ha126 hb126 ⊢
   have y0 := heapN_cellj hI11 (k := 0) rfl
   have z0 : w14.frozen? ⟨X11, 0, none⟩ = false := by simp [World.frozen?, hI11]
   have y1 := heapN_cellj hI11 (k := 1) rfl
   have z1 : w14.frozen? ⟨X11, 1, none⟩ = false := by simp [World.frozen?, hI11]
   refine endQ_some rfl ⟨_, by simp [go_sem, y0, z0, y1, z1]; rfl, ?_⟩
   have hB15 : Below w8.heap.size w8 ((w14.setCell ⟨X11, 0, none⟩ (.slice p126 (N + 1) c126)).setCell ⟨X11, 1, none⟩ (.slice q126 (N + 1) d126)) := (hB14.setCell (p := ⟨X11, 0, none⟩) hX11 _).setCell (p := ⟨X11, 1, none⟩) hX11 _
   have ka := (ha126.kept (grownBy_setN _ ⟨X11, 0, none⟩ (.slice p126 (N + 1) c126)) (.inr (own_apart ha126 hI11 (by decide)))).kept (grownBy_setN _ ⟨X11, 1, none⟩ (.slice q126 (N + 1) d126)) (.inr (own_apart ha126 hI11 (by decide)))
   have kb := (hb126.kept (grownBy_setN _ ⟨X11, 0, none⟩ (.slice p126 (N + 1) c126)) (.inr (own_apart hb126 hI11 (by decide)))).kept (grownBy_setN _ ⟨X11, 1, none⟩ (.slice q126 (N + 1) d126)) (.inr (own_apart hb126 hI11 (by decide)))
   have h7 := cellsT_setN (o := 1) (u := (.slice q126 (N + 1) d126)) (cellsT_setN (o := 0) (u := (.slice p126 (N + 1) c126)) hI11)
   generalize hWc : World.setCell (World.setCell w14 _ _) _ _ = w15 at *
   clear hWc y0 z0 y1 z1 hdis hcp ha126 hb126 hI11 hB14 s0 s1
   have hB15 : Below w8.heap.size w8 w15 := hB15
   have HX11 := Lib.hid (show Blk w15 X11 (.cells #[(.slice p126 (N + 1) c126), (.slice q126 (N + 1) d126)] 38) from h7)
   have hsx2 : Sx w15 (.slice p126 (N + 1) c126) (nms.take N ++ [⟨#[97]⟩]) := by
    have e : cr encS (nms.take N ++ [(⟨#[97]⟩ : ByteArray)]) = cr encS (nms.take N) ++ [.string ⟨#[97]⟩] := by rw [cr_snoc]; rfl
    have hl := (nms_ok1 hN3).2.2
    rw [← e, ← hl] at ka
    have := Rx.own (enc := encS) (fun _ => rfl) ka (by unfold maxLen; omega)
    rw [hl] at this
    exact this
   have hc126 : N + 1 ≤ c126 := by
    obtain ⟨_, _, e9, h⟩ := own_some ka (by omega)
    simp only [Value.slice.injEq] at e9
    omega
   have hrl : (ts ++ [sumT t0 tn]).length = N + 1 := by rw [List.length_append, HTL.out]; rfl
   have hlx2 : Lx NxO w15 (.slice q126 (N + 1) d126) ((ts ++ [sumT t0 tn]).map pre) := by
    have hol : OwnL w8.heap.size w15 (.slice q126 (N + 1) d126) ((ts ++ [sumT t0 tn]).map pre) (us2 ++ [.slice p8 Q c8]) := by
     refine ⟨by rw [List.length_map, hrl]; exact kb, fun k u x hk hx => ?_⟩
     have hml : (ts.map pre).length = N := by rw [List.length_map, HTL.out]
     rw [List.map_append] at hx
     rcases Nat.lt_or_ge k N with hlt | hge
     ·rw [List.getElem?_append_left (by rw [HUN2.out]; exact hlt)] at hk
      rw [List.getElem?_append_left (by rw [hml]; exact hlt)] at hx
      exact (HXU2.out k u x hk hx).grow hB15
     ·rw [List.getElem?_append_right (by rw [HUN2.out]; exact hge), HUN2.out] at hk
      rw [List.getElem?_append_right (by rw [hml]; exact hge), hml] at hx
      obtain ⟨i, hi⟩ : ∃ i, k - N = i := ⟨_, rfl⟩
      rw [hi] at hk hx
      match i, hk, hx with
      | 0, hk, hx =>
       cases hk
       cases hx
       exact HNS.out.grow hB15
    exact hol.lx (by rw [List.length_map, hrl]; unfold maxLen; omega)
   obtain ⟨ip, iq, hip, hiq, hsm⟩ := share_sum HT0.out HTN.out
   rw [HCE.out] at hip hiq hsm
   dsimp only at hip hiq hsm
   have hE := emitI_at C ⟨7, ip, iq, 0, 0⟩
   have hEl := emitI_len C ⟨7, ip, iq, 0, 0⟩
   obtain ⟨ix, hix⟩ : ∃ ix, idxI (emitI C ⟨7, ip, iq, 0, 0⟩) ⟨7, ip, iq, 0, 0⟩ = ix := ⟨_, rfl⟩
   obtain ⟨E, hEE⟩ : ∃ E, emitI C ⟨7, ip, iq, 0, 0⟩ = E := ⟨_, rfl⟩
   rw [hix] at hE hsm
   rw [hEE] at hE hEl hsm
   have hev2 : ∀ t ∈ ts ++ [sumT t0 tn], EV ((N + 1 : Nat) : Int) t := fun t ht => by
    rcases List.mem_append.1 ht with h | h
    ·exact ev_mono (by omega) (HEV.out t h)
    ·simp only [List.mem_cons, List.not_mem_nil, or_false] at h
     subst h
     exact ev_sum (ev_mono (by omega) (HEV.out t0 (List.mem_of_getElem? HT0.out))) (ev_mono (by omega) (HEV.out tn (List.mem_of_getElem? HTN.out)))
   have h2002 : ∀ t ∈ ts ++ [sumT t0 tn], (pre t).length ≤ 200 := fun t ht => by
    rcases List.mem_append.1 ht with h | h
    ·exact H200.out t h
    ·simp only [List.mem_cons, List.not_mem_nil, or_false] at h
     subst h
     rw [HQS.out]
     omega
   have KC3 := Lib.hid (fun w a b => comp_gen (nms.take N ++ [⟨#[97]⟩]) (ts ++ [sumT t0 tn]) E (oc ++ [(ix : Int)]) (N + 1) p126 c126 (.slice q126 (N + 1) d126) w a (nms_ok1 hN3).2.2 hc126 b hrl (by omega) (by omega) (nms_ok1 hN3).1 (nms_ok1 hN3).2.1 hev2 h2002 (by omega) hsm)
   have hol3 : (oc ++ [(ix : Int)]).length = N + 1 := by rw [List.length_append, HOL.out]; rfl
   have htv3 : tvB ((N + 1 : Nat) : Int) E (oc ++ [(ix : Int)]) = true := by
    have hv := compT_vl hev2 (T := []) (fun k x hx => by simp at hx)
    have hob := fun y => comp_out (ts := ts ++ [sumT t0 tn]) (T := []) y
    rw [hsm] at hv hob
    refine tv_of (by omega) (by omega) (by omega) (m := N + 1) rfl hol3 hv (fun y hy => ?_)
    have := hob y hy
    unfold ixB
    rw [decide_eq_true this.1, decide_eq_true this.2]
    rfl
   have HSX2 := Lib.hid hsx2
   have HLX2 := Lib.hid hlx2
   have HTV3 := Lib.hid htv3
   have HE := Lib.hid hE
   have HEL := Lib.hid hEl
   have HIP := Lib.hid hip
   have HIQ := Lib.hid hiq
   have HOL3 := Lib.hid hol3
   have HC5 := Lib.hid (HC5.out.grow hB15)
   have HIC := Lib.hid (HIC.out.grow hB15)
   have HPC := Lib.hid (HPC.out.grow hB15)
   have HW := Lib.hid (below_then HW.out hB15)
   have y0 := heapN_cellj HX11.out (k := 0) rfl
   have y1 := heapN_cellj HX11.out (k := 1) rfl
   clear hB15 ka kb h7 hsx2 hlx2 hrl hnN3 hcN2 hcU2 hoU2 his hss0 hss1 hss2 hin hns0 hns1 hns2 hc126 HXU2 HUN2 hX11 hip hiq hsm hE hEl hix hEE hev2 h2002 hol3 htv3 HS HSX HLX HNS HQS
   go_wp2_with (fail)
   refine (KC3.out _ HSX2.out HLX2.out).mono ?_
   rintro e w16 ⟨p3', c3', p4', c4', rfl, hi3, hp3, hB⟩
   have hic3 := Rx.own encI_len hi3 (by have := HEL.out; unfold maxLen; omega)
   have hpc3 : Px w16 (.slice p4' (N + 1) c4') (oc ++ [(ix : Int)]) := by
    have h := hp3
    rw [← HOL3.out] at h
    have := Rx.own (enc := enc1) (fun _ => rfl) h (by rw [HOL3.out]; unfold maxLen; omega)
    rw [HOL3.out] at this
    exact this
   obtain ⟨M1, hM1⟩ : ∃ M1, N + 1 = M1 := ⟨_, rfl⟩
   have U4 : IntKind.i64.wrap ((N : Int) + 1) = (M1 : Int) := by rw [wrapN _ (by omega) (by omega)]; omega
   have htv3 := HTV3.out
   rw [hM1] at hpc3 htv3 ⊢
   have HTV4 := Lib.hid htv3
   have KV := Lib.hid (fun (w : World) (vl vo : Value) (a : Ix w vl E) (b : Px w vo (oc ++ [(ix : Int)])) => (rvalid8_ok M1 vl vo E (oc ++ [(ix : Int)]) w a b).mono fun e w' h => (by rw [HTV4.out] at h; exact h : e = .returned (.bool true) ∧ Below w.heap.size w w'))
   have hxn : (oc ++ [(ix : Int)])[N]? = some (ix : Int) := by rw [List.getElem?_append_right (by rw [HOL.out]; exact Nat.le_refl _), HOL.out, Nat.sub_self]; rfl
   have hS : Below w16.heap.size w16 (w16.alloc (.cells #[.int .i64 M1, .slice p3' E.length c3', .slice p4' M1 c4'] 25)) := (Below.refl _ _).alloc (Nat.le_refl _) _
   have HD := Lib.hid (show Blk (w16.alloc (.cells #[.int .i64 M1, .slice p3' E.length c3', .slice p4' M1 c4'] 25)) w16.heap.size (.cells #[.int .i64 M1, .slice p3' E.length c3', .slice p4' M1 c4'] 25) from World.alloc_heap_new w16 _)
   have HIE := Lib.hid (hic3.grow hS)
   have HPE := Lib.hid (hpc3.grow hS)
   have HC5 := Lib.hid ((HC5.out.grow hB).grow hS)
   have HIC := Lib.hid ((HIC.out.grow hB).grow hS)
   have HPC := Lib.hid ((HPC.out.grow hB).grow hS)
   have HW := Lib.hid (below_then (below_then HW.out hB) hS)
   have HXN := Lib.hid hxn
   have e0 := heapN_cellj HD.out (k := 0) rfl
   have e1 := heapN_cellj HD.out (k := 1) rfl
   have e2 := heapN_cellj HD.out (k := 2) rfl
   clear hB hi3 hp3 hic3 hpc3 hS KC3 HSX2 HLX2 y0 y1 HX11 hM1 htv3 HTV3 hxn
   go_wp2_with (fail)
   generalize hWc : World.alloc w16 _ = W17 at *
   clear hWc e0 e1 e2
   obtain ⟨be, oe, hpe, _, rde⟩ := px_rd HPE.out HXN.out
   subst hpe
   obtain ⟨bi, oi, hpi, _, rdi⟩ := is_rd HIE.out HE.out
   subst hpi
   obtain ⟨bc, oc', hpcc, _, rdc⟩ := px_rd HPC.out HIP.out
   obtain ⟨bc', oc'', hpcc', _, rdc'⟩ := px_rd HPC.out HIQ.out
   rw [hpcc] at hpcc'
   simp only [Option.some.injEq, Addr.mk.injEq, and_true] at hpcc'
   obtain ⟨rfl, rfl⟩ := hpcc'
   subst hpcc
   have e0 := fun g : Grown W17 => heapN_cellj (HD.out.grow g.h) (k := 0) rfl
   have e1 := fun g : Grown W17 => heapN_cellj (HD.out.grow g.h) (k := 1) rfl
   have e2 := fun g : Grown W17 => heapN_cellj (HD.out.grow g.h) (k := 2) rfl
   have c1' := fun g : Grown W17 => heapN_cellj (HC5.out.grow g.h) (k := 1) rfl
   have c2' := fun g : Grown W17 => heapN_cellj (HC5.out.grow g.h) (k := 2) rfl
   have g1 := fun g : Grown W17 => rde g
   have g2 := fun g : Grown W17 => (rdi g).2.1
   have g3 := fun g : Grown W17 => (rdi g).2.2.1
   have g4 := fun g : Grown W17 => rdc g
   simp only [Nat.add_zero] at g4
   have g5 := fun g : Grown W17 => rdc' g
   have hixl : ix < E.length := (List.getElem?_eq_some_iff.1 HE.out).1
   have i8 : (ix : Int) < E.length := by omega
   have i9 : (N : Int) < M1 := by have := rx_n HPE.out; have := HOL3.out; omega
   have hN0 : ¬ N = 0 := by omega
   have i11 : (n1 : Int) < N := by omega
   have U5 : IntKind.i64.wrap ((C.length : Int) + 1) = (C.length : Int) + 1 := by rw [wrapN _ (by omega) (by omega)]
   have hel := HEL.out
   obtain ⟨b, ib⟩ : ∃ b, ((E.length : Int) == (C.length : Int) + 1) = b := ⟨_, rfl⟩
   have i13 : b = false → ((E.length : Int) == (C.length : Int)) = true := fun h => by
    subst h
    simp at ib ⊢
    omega
   clear rde rdi rdc rdc' hixl hel
   simp only [List.append_eq, List.cons_append, List.nil_append]
   refine region_pred (lk [(129, fun z_ _ => z_ = .agg #[.int .i64 M1, .slice (some ⟨bi, oi, none⟩) E.length c3', .slice (some ⟨be, oe, none⟩) M1 c4']), (130, fun z_ _ => z_ = .bool true), (131, fun z_ _ => z_ = .bool true), (132, fun z_ _ => z_ = .pointer (some ⟨w16.heap.size, 0, none⟩)), (133, fun z_ _ => z_ = .int .i64 M1), (134, fun z_ _ => z_ = .int .i64 N), (135, fun z_ _ => z_ = .int .i64 M1), (136, fun z_ _ => z_ = .bool true), (137, fun z_ _ => z_ = .bool true), (138, fun z_ _ => z_ = .bool true), (139, fun z_ _ => z_ = .pointer (some ⟨w16.heap.size, 1, none⟩)), (140, fun z_ _ => z_ = .slice (some ⟨bi, oi, none⟩) E.length c3'), (141, fun z_ _ => z_ = .int .i64 E.length), (142, fun z_ _ => z_ = .pointer (some ⟨X5, 1, none⟩)), (143, fun z_ _ => z_ = .slice p1 C.length c1), (144, fun z_ _ => z_ = .int .i64 C.length), (145, fun z_ _ => z_ = .int .i64 ((C.length : Int) + 1)), (146, fun z_ _ => z_ = .bool b), (147, fun z_ _ => z_ = .bool b), (148, fun z_ _ => b = false → z_ = .pointer (some ⟨w16.heap.size, 1, none⟩)), (149, fun z_ _ => b = false → z_ = .slice (some ⟨bi, oi, none⟩) E.length c3'), (150, fun z_ _ => b = false → z_ = .int .i64 E.length), (151, fun z_ _ => b = false → z_ = .pointer (some ⟨X5, 1, none⟩)), (152, fun z_ _ => b = false → z_ = .slice p1 C.length c1), (153, fun z_ _ => b = false → z_ = .int .i64 C.length), (154, fun z_ _ => b = false → z_ = .bool true), (155, fun z_ _ => z_ = .bool true), (156, fun z_ _ => z_ = .bool true), (157, fun z_ _ => z_ = .bool true), (158, fun z_ _ => z_ = .pointer (some ⟨w16.heap.size, 1, none⟩)), (159, fun z_ _ => z_ = .slice (some ⟨bi, oi, none⟩) E.length c3'), (160, fun z_ _ => z_ = .pointer (some ⟨w16.heap.size, 2, none⟩)), (161, fun z_ _ => z_ = .slice (some ⟨be, oe, none⟩) M1 c4'), (162, fun z_ _ => z_ = .int .i64 N), (163, fun z_ _ => z_ = .pointer (some ⟨be, oe + N, none⟩)), (164, fun z_ _ => z_ = .int .i64 (ix : Int)), (165, fun z_ _ => z_ = .pointer (some ⟨bi, oi + ix * 5, none⟩)), (166, fun z_ _ => z_ = .pointer (some ⟨bi, oi + ix * 5 + 1, none⟩)), (167, fun z_ _ => z_ = .int .i64 (ip : Int)), (168, fun z_ _ => z_ = .pointer (some ⟨X5, 2, none⟩)), (169, fun z_ _ => z_ = .slice (some ⟨bc, oc', none⟩) N c2), (170, fun z_ _ => z_ = .pointer (some ⟨bc, oc', none⟩)), (171, fun z_ _ => z_ = .int .i64 (ip : Int)), (172, fun z_ _ => z_ = .bool true), (173, fun z_ _ => z_ = .bool true), (174, fun z_ _ => z_ = .bool true), (175, fun z_ _ => z_ = .pointer (some ⟨w16.heap.size, 1, none⟩)), (176, fun z_ _ => z_ = .slice (some ⟨bi, oi, none⟩) E.length c3'), (177, fun z_ _ => z_ = .pointer (some ⟨w16.heap.size, 2, none⟩)), (178, fun z_ _ => z_ = .slice (some ⟨be, oe, none⟩) M1 c4'), (179, fun z_ _ => z_ = .int .i64 N), (180, fun z_ _ => z_ = .pointer (some ⟨be, oe + N, none⟩)), (181, fun z_ _ => z_ = .int .i64 (ix : Int)), (182, fun z_ _ => z_ = .pointer (some ⟨bi, oi + ix * 5, none⟩)), (183, fun z_ _ => z_ = .pointer (some ⟨bi, oi + ix * 5 + 2, none⟩)), (184, fun z_ _ => z_ = .int .i64 (iq : Int)), (185, fun z_ _ => z_ = .pointer (some ⟨X5, 2, none⟩)), (186, fun z_ _ => z_ = .slice (some ⟨bc, oc', none⟩) N c2), (187, fun z_ _ => z_ = .int .i64 N), (188, fun z_ _ => z_ = .int .i64 (n1 : Int)), (189, fun z_ _ => z_ = .pointer (some ⟨bc, oc' + n1, none⟩)), (190, fun z_ _ => z_ = .int .i64 (iq : Int)), (191, fun z_ _ => z_ = .bool true), (192, fun z_ _ => z_ = .bool true), (193, fun z_ _ => z_ = .bool true), (194, fun z_ _ => z_ = .bool true), (195, fun z_ _ => z_ = .bool true), (2, fun z_ _ => z_ = .bool true)]) (by kernel_rfl) (by kernel_rfl) (lk_steady _ ⟨steady_eq _, steady_eq _, steady_eq _, steady_eq _, steady_eq _, steady_eq _, steady_eq _, steady_eq _, steady_eq _, steady_eq _, steady_eq _, steady_eq _, steady_eq _, steady_eq _, steady_eq _, steady_eq _, steady_eq _, steady_eq _, steady_eq _, steady_q _ _, steady_q _ _, steady_q _ _, steady_q _ _, steady_q _ _, steady_q _ _, steady_q _ _, steady_eq _, steady_eq _, steady_eq _, steady_eq _, steady_eq _, steady_eq _, steady_eq _, steady_eq _, steady_eq _, steady_eq _, steady_eq _, steady_eq _, steady_eq _, steady_eq _, steady_eq _, steady_eq _, steady_eq _, steady_eq _, steady_eq _, steady_eq _, steady_eq _, steady_eq _, steady_eq _, steady_eq _, steady_eq _, steady_eq _, steady_eq _, steady_eq _, steady_eq _, steady_eq _, steady_eq _, steady_eq _, steady_eq _, steady_eq _, steady_eq _, steady_eq _, steady_eq _, steady_eq _, steady_eq _, steady_eq _, steady_eq _, steady_eq _, trivial⟩) ?_ ?_
   ·refine ⟨?_, ?_, ?_, ?_, ?_, ?_, ?_, ?_, ?_, ?_, ?_, ?_, ?_, ?_, ?_, ?_, ?_, ?_, ?_, ?_, ?_, ?_, ?_, ?_, ?_, ?_, ?_, ?_, ?_, ?_, ?_, ?_, ?_, ?_, ?_, ?_, ?_, ?_, ?_, ?_, ?_, ?_, ?_, ?_, ?_, ?_, ?_, ?_, ?_, ?_, ?_, ?_, ?_, ?_, ?_, ?_, ?_, ?_, ?_, ?_, ?_, ?_, ?_, ?_, ?_, ?_, ?_, ?_, trivial⟩
    ·exact ob_plain [12] rfl rfl fun _ g h => by have y0 := seen_out rfl rfl h.1; exact tv1 (by simp [go_sem, y0, e0 g, e1 g, e2 g]) rfl
    ·exact ob_plain [129] rfl rfl fun _ g h => by obtain ⟨_, y0, rfl⟩ := seen_in rfl h.1; exact tupon_enter (f := 28) (args := #[.agg #[.int .i64 M1, .slice (some ⟨bi, oi, none⟩) E.length c3', .slice (some ⟨be, oe, none⟩) M1 c4']]) (by simp [go_sem, y0]) rfl ((KV.out g.w _ _ (HIE.out.grow g.h) (HPE.out.grow g.h)).mono fun e w' ⟨he, hB⟩ => ⟨_, he, hB, rfl⟩)
    ·exact ob_plain [130] rfl rfl fun _ g h => by obtain ⟨_, y0, rfl⟩ := seen_in rfl h.1; exact tv1 (by simp [go_sem, y0]) rfl
    ·exact gT [12] true 131 rfl rfl rfl fun _ g h => by have y0 := seen_out rfl rfl h.1; exact tv1 (by simp [go_sem, y0]) rfl
    ·exact gT [132] true 131 rfl rfl rfl fun _ g h => by obtain ⟨_, y0, rfl⟩ := seen_in rfl h.1; exact tv1 (by simp [go_sem, y0, e0 g]) rfl
    ·exact gT [6] true 131 rfl rfl rfl fun _ g h => by have y0 := seen_out rfl rfl h.1; exact tv1 (by simp [go_sem, y0]) rfl
    ·exact gT [134] true 131 rfl rfl rfl fun _ g h => by obtain ⟨_, y0, rfl⟩ := seen_in rfl h.1; exact tv1 (by simp [go_sem, y0, U4]) rfl
    ·exact gT [133, 135] true 131 rfl rfl rfl fun _ g h => by obtain ⟨_, y0, rfl⟩ := seen_in rfl h.1; obtain ⟨_, y1, rfl⟩ := seen_in rfl h.2.1; exact tv1 (by simp [go_sem, y0, y1]) rfl
    ·exact ob_plain [131, 136] rfl rfl fun _ g h => by obtain ⟨_, y0, rfl⟩ := seen_in rfl h.1; obtain ⟨_, y1, rfl⟩ := seen_in rfl h.2.1; exact tv1 (by simp [go_sem, y0, y1]) rfl
    ·exact ob_plain [137] rfl rfl fun _ g h => by obtain ⟨_, y0, rfl⟩ := seen_in rfl h.1; exact tv1 (by simp [go_sem, y0]) rfl
    ·exact gT [12] true 138 rfl rfl rfl fun _ g h => by have y0 := seen_out rfl rfl h.1; exact tv1 (by simp [go_sem, y0]) rfl
    ·exact gT [139] true 138 rfl rfl rfl fun _ g h => by obtain ⟨_, y0, rfl⟩ := seen_in rfl h.1; exact tv1 (by simp [go_sem, y0, e1 g]) rfl
    ·exact gT [140] true 138 rfl rfl rfl fun _ g h => by obtain ⟨_, y0, rfl⟩ := seen_in rfl h.1; exact tv1 (by simp [go_sem, y0]) rfl
    ·exact gT [5] true 138 rfl rfl rfl fun _ g h => by have y0 := seen_out rfl rfl h.1; exact tv1 (by simp [go_sem, y0]) rfl
    ·exact gT [142] true 138 rfl rfl rfl fun _ g h => by obtain ⟨_, y0, rfl⟩ := seen_in rfl h.1; exact tv1 (by simp [go_sem, y0, c1' g]) rfl
    ·exact gT [143] true 138 rfl rfl rfl fun _ g h => by obtain ⟨_, y0, rfl⟩ := seen_in rfl h.1; exact tv1 (by simp [go_sem, y0]) rfl
    ·exact gT [144] true 138 rfl rfl rfl fun _ g h => by obtain ⟨_, y0, rfl⟩ := seen_in rfl h.1; exact tv1 (by simp [go_sem, y0, U5]) rfl
    ·exact gT [141, 145] true 138 rfl rfl rfl fun _ g h => by obtain ⟨_, y0, rfl⟩ := seen_in rfl h.1; obtain ⟨_, y1, rfl⟩ := seen_in rfl h.2.1; exact tv1 (by simp [go_sem, y0, y1, ib]) rfl
    ·exact gT [146] true 138 rfl rfl rfl fun _ g h => by obtain ⟨_, y0, rfl⟩ := seen_in rfl h.1; exact tv1 (by simp [go_sem, y0]) rfl
    ·cases b with
     | true => exact ob_gfalse _ _ false 147 rfl rfl rfl rfl (fun v w h => h) (fun _ h => by cases h)
     | false => exact ob_gtrue [12] _ false 147 rfl rfl rfl rfl (fun v w h => h) fun _ g h => by have y0 := seen_out (v := .pointer (some ⟨w16.heap.size, 0, none⟩)) rfl rfl h.1; exact tv1 (v := .pointer (some ⟨w16.heap.size, 1, none⟩)) (by simp [go_sem, y0]) (fun _ => rfl)
    ·cases b with
     | true => exact ob_gfalse _ _ false 147 rfl rfl rfl rfl (fun v w h => h) (fun _ h => by cases h)
     | false => exact ob_gtrue [148] _ false 147 rfl rfl rfl rfl (fun v w h => h) fun _ g h => by obtain ⟨_, y0, k0⟩ := seen_in rfl h.1; obtain rfl := k0 rfl; exact tv1 (v := .slice (some ⟨bi, oi, none⟩) E.length c3') (by simp [go_sem, y0, e1 g]) (fun _ => rfl)
    ·cases b with
     | true => exact ob_gfalse _ _ false 147 rfl rfl rfl rfl (fun v w h => h) (fun _ h => by cases h)
     | false => exact ob_gtrue [149] _ false 147 rfl rfl rfl rfl (fun v w h => h) fun _ g h => by obtain ⟨_, y0, k0⟩ := seen_in rfl h.1; obtain rfl := k0 rfl; exact tv1 (v := .int .i64 E.length) (by simp [go_sem, y0]) (fun _ => rfl)
    ·cases b with
     | true => exact ob_gfalse _ _ false 147 rfl rfl rfl rfl (fun v w h => h) (fun _ h => by cases h)
     | false => exact ob_gtrue [5] _ false 147 rfl rfl rfl rfl (fun v w h => h) fun _ g h => by have y0 := seen_out (v := .pointer (some ⟨X5, 0, none⟩)) rfl rfl h.1; exact tv1 (v := .pointer (some ⟨X5, 1, none⟩)) (by simp [go_sem, y0]) (fun _ => rfl)
    ·cases b with
     | true => exact ob_gfalse _ _ false 147 rfl rfl rfl rfl (fun v w h => h) (fun _ h => by cases h)
     | false => exact ob_gtrue [151] _ false 147 rfl rfl rfl rfl (fun v w h => h) fun _ g h => by obtain ⟨_, y0, k0⟩ := seen_in rfl h.1; obtain rfl := k0 rfl; exact tv1 (v := .slice p1 C.length c1) (by simp [go_sem, y0, c1' g]) (fun _ => rfl)
    ·cases b with
     | true => exact ob_gfalse _ _ false 147 rfl rfl rfl rfl (fun v w h => h) (fun _ h => by cases h)
     | false => exact ob_gtrue [152] _ false 147 rfl rfl rfl rfl (fun v w h => h) fun _ g h => by obtain ⟨_, y0, k0⟩ := seen_in rfl h.1; obtain rfl := k0 rfl; exact tv1 (v := .int .i64 C.length) (by simp [go_sem, y0]) (fun _ => rfl)
    ·cases b with
     | true => exact ob_gfalse _ _ false 147 rfl rfl rfl rfl (fun v w h => h) (fun _ h => by cases h)
     | false => exact ob_gtrue [150, 153] _ false 147 rfl rfl rfl rfl (fun v w h => h) fun _ g h => by obtain ⟨_, y0, k0⟩ := seen_in rfl h.1; obtain rfl := k0 rfl; obtain ⟨_, y1, k1⟩ := seen_in rfl h.2.1; obtain rfl := k1 rfl; exact tv1 (v := .bool true) (by simp [go_sem, y0, y1, i13 rfl]) (fun _ => rfl)
    ·refine ob_gtrue [147, 154] _ true 138 rfl rfl rfl rfl (fun v w h => h) fun _ g h => ?_
     obtain ⟨_, y0, rfl⟩ := seen_in rfl h.1
     obtain ⟨_, y1, k1⟩ := seen_in rfl h.2.1
     cases b with
     | true => exact tv1 (v := .bool true) (by simp [go_sem, y0, y1]) rfl
     | false =>
      obtain rfl := k1 rfl
      exact tv1 (v := .bool true) (by simp [go_sem, y0, y1]) rfl
    ·exact ob_plain [138, 155] rfl rfl fun _ g h => by obtain ⟨_, y0, rfl⟩ := seen_in rfl h.1; obtain ⟨_, y1, rfl⟩ := seen_in rfl h.2.1; exact tv1 (by simp [go_sem, y0, y1]) rfl
    ·exact ob_plain [156] rfl rfl fun _ g h => by obtain ⟨_, y0, rfl⟩ := seen_in rfl h.1; exact tv1 (by simp [go_sem, y0]) rfl
    ·exact gT [12] true 157 rfl rfl rfl fun _ g h => by have y0 := seen_out rfl rfl h.1; exact tv1 (by simp [go_sem, y0]) rfl
    ·exact gT [158] true 157 rfl rfl rfl fun _ g h => by obtain ⟨_, y0, rfl⟩ := seen_in rfl h.1; exact tv1 (by simp [go_sem, y0, e1 g]) rfl
    ·exact gT [12] true 157 rfl rfl rfl fun _ g h => by have y0 := seen_out rfl rfl h.1; exact tv1 (by simp [go_sem, y0]) rfl
    ·exact gT [160] true 157 rfl rfl rfl fun _ g h => by obtain ⟨_, y0, rfl⟩ := seen_in rfl h.1; exact tv1 (by simp [go_sem, y0, e2 g]) rfl
    ·exact gT [6] true 157 rfl rfl rfl fun _ g h => by have y0 := seen_out rfl rfl h.1; exact tv1 (by simp [go_sem, y0]) rfl
    ·exact gT [161, 162] true 157 rfl rfl rfl fun _ g h => by obtain ⟨_, y0, rfl⟩ := seen_in rfl h.1; obtain ⟨_, y1, rfl⟩ := seen_in rfl h.2.1; exact tv1 (by simp [go_sem, y0, y1, i9]) rfl
    ·exact gT [163] true 157 rfl rfl rfl fun _ g h => by obtain ⟨_, y0, rfl⟩ := seen_in rfl h.1; exact tv1 (by simp [go_sem, y0, g1 g]) rfl
    ·exact gT [159, 164] true 157 rfl rfl rfl fun _ g h => by obtain ⟨_, y0, rfl⟩ := seen_in rfl h.1; obtain ⟨_, y1, rfl⟩ := seen_in rfl h.2.1; exact tv1 (by simp [go_sem, y0, y1, i8]) rfl
    ·exact gT [165] true 157 rfl rfl rfl fun _ g h => by obtain ⟨_, y0, rfl⟩ := seen_in rfl h.1; exact tv1 (by simp [go_sem, y0]) rfl
    ·exact gT [166] true 157 rfl rfl rfl fun _ g h => by obtain ⟨_, y0, rfl⟩ := seen_in rfl h.1; exact tv1 (by simp [go_sem, y0, g2 g]) rfl
    ·exact gT [5] true 157 rfl rfl rfl fun _ g h => by have y0 := seen_out rfl rfl h.1; exact tv1 (by simp [go_sem, y0]) rfl
    ·exact gT [168] true 157 rfl rfl rfl fun _ g h => by obtain ⟨_, y0, rfl⟩ := seen_in rfl h.1; exact tv1 (by simp [go_sem, y0, c2' g]) rfl
    ·exact gT [169] true 157 rfl rfl rfl fun _ g h => by obtain ⟨_, y0, rfl⟩ := seen_in rfl h.1; exact tv1 (by simp [go_sem, y0, hN0]) rfl
    ·exact gT [170] true 157 rfl rfl rfl fun _ g h => by obtain ⟨_, y0, rfl⟩ := seen_in rfl h.1; exact tv1 (by simp [go_sem, y0, g4 g]) rfl
    ·exact gT [167, 171] true 157 rfl rfl rfl fun _ g h => by obtain ⟨_, y0, rfl⟩ := seen_in rfl h.1; obtain ⟨_, y1, rfl⟩ := seen_in rfl h.2.1; exact tv1 (by simp [go_sem, y0, y1]) rfl
    ·exact ob_plain [157, 172] rfl rfl fun _ g h => by obtain ⟨_, y0, rfl⟩ := seen_in rfl h.1; obtain ⟨_, y1, rfl⟩ := seen_in rfl h.2.1; exact tv1 (by simp [go_sem, y0, y1]) rfl
    ·exact ob_plain [173] rfl rfl fun _ g h => by obtain ⟨_, y0, rfl⟩ := seen_in rfl h.1; exact tv1 (by simp [go_sem, y0]) rfl
    ·exact gT [12] true 174 rfl rfl rfl fun _ g h => by have y0 := seen_out rfl rfl h.1; exact tv1 (by simp [go_sem, y0]) rfl
    ·exact gT [175] true 174 rfl rfl rfl fun _ g h => by obtain ⟨_, y0, rfl⟩ := seen_in rfl h.1; exact tv1 (by simp [go_sem, y0, e1 g]) rfl
    ·exact gT [12] true 174 rfl rfl rfl fun _ g h => by have y0 := seen_out rfl rfl h.1; exact tv1 (by simp [go_sem, y0]) rfl
    ·exact gT [177] true 174 rfl rfl rfl fun _ g h => by obtain ⟨_, y0, rfl⟩ := seen_in rfl h.1; exact tv1 (by simp [go_sem, y0, e2 g]) rfl
    ·exact gT [6] true 174 rfl rfl rfl fun _ g h => by have y0 := seen_out rfl rfl h.1; exact tv1 (by simp [go_sem, y0]) rfl
    ·exact gT [178, 179] true 174 rfl rfl rfl fun _ g h => by obtain ⟨_, y0, rfl⟩ := seen_in rfl h.1; obtain ⟨_, y1, rfl⟩ := seen_in rfl h.2.1; exact tv1 (by simp [go_sem, y0, y1, i9]) rfl
    ·exact gT [180] true 174 rfl rfl rfl fun _ g h => by obtain ⟨_, y0, rfl⟩ := seen_in rfl h.1; exact tv1 (by simp [go_sem, y0, g1 g]) rfl
    ·exact gT [176, 181] true 174 rfl rfl rfl fun _ g h => by obtain ⟨_, y0, rfl⟩ := seen_in rfl h.1; obtain ⟨_, y1, rfl⟩ := seen_in rfl h.2.1; exact tv1 (by simp [go_sem, y0, y1, i8]) rfl
    ·exact gT [182] true 174 rfl rfl rfl fun _ g h => by obtain ⟨_, y0, rfl⟩ := seen_in rfl h.1; exact tv1 (by simp [go_sem, y0]) rfl
    ·exact gT [183] true 174 rfl rfl rfl fun _ g h => by obtain ⟨_, y0, rfl⟩ := seen_in rfl h.1; exact tv1 (by simp [go_sem, y0, g3 g]) rfl
    ·exact gT [5] true 174 rfl rfl rfl fun _ g h => by have y0 := seen_out rfl rfl h.1; exact tv1 (by simp [go_sem, y0]) rfl
    ·exact gT [185] true 174 rfl rfl rfl fun _ g h => by obtain ⟨_, y0, rfl⟩ := seen_in rfl h.1; exact tv1 (by simp [go_sem, y0, c2' g]) rfl
    ·exact gT [6] true 174 rfl rfl rfl fun _ g h => by have y0 := seen_out rfl rfl h.1; exact tv1 (by simp [go_sem, y0]) rfl
    ·exact gT [187] true 174 rfl rfl rfl fun _ g h => by obtain ⟨_, y0, rfl⟩ := seen_in rfl h.1; exact tv1 (by simp [go_sem, y0, U3]) rfl
    ·exact gT [186, 188] true 174 rfl rfl rfl fun _ g h => by obtain ⟨_, y0, rfl⟩ := seen_in rfl h.1; obtain ⟨_, y1, rfl⟩ := seen_in rfl h.2.1; exact tv1 (by simp [go_sem, y0, y1, i11]) rfl
    ·exact gT [189] true 174 rfl rfl rfl fun _ g h => by obtain ⟨_, y0, rfl⟩ := seen_in rfl h.1; exact tv1 (by simp [go_sem, y0, g5 g]) rfl
    ·exact gT [184, 190] true 174 rfl rfl rfl fun _ g h => by obtain ⟨_, y0, rfl⟩ := seen_in rfl h.1; obtain ⟨_, y1, rfl⟩ := seen_in rfl h.2.1; exact tv1 (by simp [go_sem, y0, y1]) rfl
    ·exact ob_plain [174, 191] rfl rfl fun _ g h => by obtain ⟨_, y0, rfl⟩ := seen_in rfl h.1; obtain ⟨_, y1, rfl⟩ := seen_in rfl h.2.1; exact tv1 (by simp [go_sem, y0, y1]) rfl
    ·exact ob_plain [192] rfl rfl fun _ g h => by obtain ⟨_, y0, rfl⟩ := seen_in rfl h.1; exact tv1 (by simp [go_sem, y0]) rfl
    ·exact gT [3] true 193 rfl rfl rfl fun _ g h => by have y0 := seen_out rfl rfl h.1; exact tv1 (by simp [go_sem, y0]) rfl
    ·exact ob_plain [193, 194] rfl rfl fun _ g h => by obtain ⟨_, y0, rfl⟩ := seen_in rfl h.1; obtain ⟨_, y1, rfl⟩ := seen_in rfl h.2.1; exact tv1 (by simp [go_sem, y0, y1]) rfl
    ·exact ob_plain [195] rfl rfl fun _ g h => by obtain ⟨_, y0, rfl⟩ := seen_in rfl h.1; exact tv1 (by simp [go_sem, y0]) rfl
   rintro w18 hB18 _ rfl _ rfl _ rfl _ rfl _ rfl _ rfl _ rfl _ rfl _ rfl _ rfl _ rfl _ rfl _ rfl _ rfl _ rfl _ rfl _ rfl _ rfl _ rfl _ - _ - _ - _ - _ - _ - _ - _ rfl _ rfl _ rfl _ rfl _ rfl _ rfl _ rfl _ rfl _ rfl _ rfl _ rfl _ rfl _ rfl _ rfl _ rfl _ rfl _ rfl _ rfl _ rfl _ rfl _ rfl _ rfl _ rfl _ rfl _ rfl _ rfl _ rfl _ rfl _ rfl _ rfl _ rfl _ rfl _ rfl _ rfl _ rfl _ rfl _ rfl _ rfl _ rfl _ rfl _ rfl _ rfl
   simp only [Act.put, List.setIfInBounds_toArray, List.set_cons_succ, List.set_cons_zero, List.filterMap_nil, finP]
   have HW := Lib.hid (below_then HW.out hB18)
   clear hB18 e0 e1 e2 c1' c2' g1 g2 g3 g4 g5 i13
   go_wp2_with (fail)
   go_ret
   exact ⟨rfl, HW.out⟩
end Go.Proofs.Ytajddejeglhbhaa
