/-
 Appends to rows of the call's own, and cuts, as operations of a region.
-/
import Derived.Test.YtajddejeglhbhaaTh
import Derived.Test.YtajddejeglhbhaaU2
import Derived.Maps.AppendAt
import Derived.Laws.OwnMore
namespace Go.Proofs.Ytajddejeglhbhaa
open Go.ChangeShapes Go.WideShapes Go.ChangeAt Go.RowKit Go.Maps
set_option linter.unusedVariables false
set_option linter.unusedSimpArgs false
section
variable {P : Program}
theorem own_cut {B n sz : Nat} {w : World} {v : Value} {t : TypeId} {xs : List Value} (h : w.ownsRow B t sz v n xs) : ∃ p c, v = .slice p n c := by
 rcases id h.2 with ⟨rfl, h0⟩ | ⟨g, cap, cur, rfl, _⟩
 ·subst h0
  exact ⟨none, 0, rfl⟩
 ·exact ⟨_, _, rfl⟩
theorem app_h {o : Oper} {aa : Act} {W0 : World} (g : Grown W0) (s x : Operand) (t e : TypeId) (i : TypeInfo) (z : Value) (sz by_ : Nat)
  (ho : o.op = .call { callee := .builtin .append, args := #[s, x], argTypes := #[t, t] })
  (ht : P.underlying t = some (.slice e)) (hi : P.info? e = some i) (hz : i.zero = some z) (hsize : i.size = sz) (hby : i.bytes = by_) (hzs : z.cells.size = sz) (hsz : 0 < sz)
  (v : Value) (n : Nat) (xs : List Value) (hs : aa.eval s = v) (hown : g.w.ownsRow W0.heap.size e sz v n xs)
  (p : Option Addr) (m c : Nat) (news : List Value) (hx : aa.eval x = .slice p m c) (hnone : p = none → m = 0 ∧ c = 0) (hnl : news.length = m * sz)
  (hcell : ∀ ad, p = some ad → ∀ j u, news[j]? = some u → g.w.cell? (ad.add j) = some u) (h1 : ∀ u ∈ news, u.oneCell' = true)
  (h63 : n + m ≤ maxLen) (hbytes : (n + m) * by_ ≤ 140737488355328) :
  ∃ p' c' w', (execOp aa.eval o).run P g.w = .ok (.value (.slice p' (n + m) c')) w' ∧ Below W0.heap.size W0 w' ∧ w'.ownsRow W0.heap.size e sz (.slice p' (n + m) c') (n + m) (xs ++ news) ∧ g.w.grownBy w' v.ownBlock ∧ ∀ b, (Value.slice p' (n + m) c').ownBlock = some b → g.w.heap.size ≤ b ∨ v.ownBlock = some b := by
 cases p with
 | none =>
  obtain ⟨rfl, rfl⟩ := hnone rfl
  obtain rfl : news = [] := by
   cases news with
   | nil => rfl
   | cons a r => simp at hnl
  have hrun := run_append_owned_none (P := P) (w := g.w) W0.heap.size t o.type e i sz ht hi v n xs hown
  obtain ⟨p', c', rfl⟩ := own_cut hown
  refine ⟨p', c', g.w, ?_, g.h, by simpa using hown, World.grownBy.refl _ _, fun b hb => .inr hb⟩
  simp [execOp, ho, resolve, invoke, builtin, hs, hx, hrun, Result.andThen]
 | some ad =>
  obtain ⟨v', w', hr, h2, h3, _, h4⟩ := run_append_own_at (P := P) g.w W0.heap.size t o.type e i z sz by_ ht hi hz hsize hby hzs hsz v n xs hown ad m c news hnl (hcell ad rfl) h1 h63 hbytes g.h.size
  obtain ⟨p', c', rfl⟩ := own_cut h2
  refine ⟨p', c', w', ?_, g.h.grown h3 g.h.size (fun k hk => (hown.lt k hk).1), h2, h3, fun b hb => ?_⟩
  ·simp [execOp, ho, resolve, invoke, builtin, hs, hx, hr, Result.andThen]
  ·rcases h4 with h4 | h4
   ·exact .inr (by rw [← h4]; exact hb)
   ·rw [h4] at hb
    exact .inl (by have := Option.some.inj hb; omega)
theorem app_go {o : Oper} {aa : Act} {W0 : World} {R : Value → World → Prop} (g : Grown W0) (s x : Operand) (t e : TypeId) (i : TypeInfo) (z : Value) (sz by_ : Nat)
  (ho : o.op = .call { callee := .builtin .append, args := #[s, x], argTypes := #[t, t] })
  (ht : P.underlying t = some (.slice e)) (hi : P.info? e = some i) (hz : i.zero = some z) (hsize : i.size = sz) (hby : i.bytes = by_) (hzs : z.cells.size = sz) (hsz : 0 < sz)
  (v : Value) (n : Nat) (xs : List Value) (hs : aa.eval s = v) (hown : g.w.ownsRow W0.heap.size e sz v n xs)
  (p : Option Addr) (m c : Nat) (news : List Value) (hx : aa.eval x = .slice p m c) (hnone : p = none → m = 0 ∧ c = 0) (hnl : news.length = m * sz)
  (hcell : ∀ ad, p = some ad → ∀ j u, news[j]? = some u → g.w.cell? (ad.add j) = some u) (h1 : ∀ u ∈ news, u.oneCell' = true)
  (h63 : n + m ≤ maxLen) (hbytes : (n + m) * by_ ≤ 140737488355328)
  (hR : ∀ p' c' w', w'.ownsRow W0.heap.size e sz (.slice p' (n + m) c') (n + m) (xs ++ news) → g.w.grownBy w' v.ownBlock → (∀ b, (Value.slice p' (n + m) c').ownBlock = some b → g.w.heap.size ≤ b ∨ v.ownBlock = some b) → R (.slice p' (n + m) c') w') :
  ∃ v' w', (execOp aa.eval o).run P g.w = .ok (.value v') w' ∧ Below W0.heap.size W0 w' ∧ R v' w' := by
 obtain ⟨p', c', w', h1, h2, h3, h4, h5⟩ := app_h g s x t e i z sz by_ ho ht hi hz hsize hby hzs hsz v n xs hs hown p m c news hx hnone hnl hcell h1 h63 hbytes
 exact ⟨_, w', h1, h2, hR p' c' w' h3 h4 h5⟩
theorem rx_news {α : Type} {enc : α → List Value} {sz : Nat} (hsz : ∀ x, (enc x).length = sz) {w : World} {p : Option Addr} {c : Nat} {l : List α} (h : Rx enc sz w (.slice p l.length c) l) :
  (p = none → l = []) ∧ ∀ ad, p = some ad → ∀ j u, (cr enc l)[j]? = some u → w.cell? (ad.add j) = some u := by
 cases l with
 | nil => exact ⟨fun _ => rfl, fun ad e j u hj => by simp [cr] at hj⟩
 | cons y l =>
  obtain ⟨b, o', hp, _⟩ := h.rd (i := 0) rfl
  subst hp
  refine ⟨fun e => (by cases e), fun ad e j u hj => ?_⟩
  obtain rfl := Option.some.inj e
  have h := h.flat hsz j u hj
  by_cases e : j = 0
  ·subst e; simpa [Addr.add] using h
  ·simpa [Addr.add, e] using h
/-- What keeps a row behind an append to another one. -/
theorem kept_h {W W' : World} {B n sz : Nat} {t : TypeId} {v v0 : Value} {xs : List Value} (h : W.ownsRow B t sz v n xs) (hg : W.grownBy W' v0.ownBlock) (hne : ∀ b, v0.ownBlock = some b → v.ownBlock ≠ some b) : W'.ownsRow B t sz v n xs := by
 refine h.kept hg ?_
 cases e : v0.ownBlock with
 | none =>
  cases e2 : v.ownBlock with
  | none => exact .inl rfl
  | some b => exact .inr (fun e3 => by cases e3)
 | some b => exact .inr (hne b e)
theorem blk_h {W W' : World} {X : Nat} {o : Obj} {v0 : Value} (h : W.heap[X]? = some o) (hg : W.grownBy W' v0.ownBlock) (hne : v0.ownBlock ≠ some X) : W'.heap[X]? = some o :=
 (hg.block X (Array.getElem?_eq_some_iff.1 h).1 (fun e => hne e.symm)).trans h
theorem exec_cut {o : Oper} {aa : Act} {w : World} (t : TypeId) (x lo : Operand) (ho : o.op = .slice t x (some lo) none none) (ht : P.underlying t = some (.slice (P.elem t))) (sz : Nat) (hs : (sizeOf (P.elem t)).run P w = .ok sz w)
  (p : Option Addr) (n c : Nat) (m : Int) (hx : aa.eval x = .slice p n c) (hl : aa.eval lo = .int .i64 m) (h0 : 0 ≤ m) (h1 : m ≤ n) :
  (execOp aa.eval o).run P w = .ok (.value (.slice (if c = m.toNat then p else p.map (·.add (m.toNat * sz))) (n - m.toNat) (c - m.toNat))) w := by
 have h2 := run_slice_l (P := P) w t p n c ht .i64 m h0 h1
 rw [hs] at h2
 have h3 := run_sliceAt_slice (P := P) w t (.slice p n c) (some (.int .i64 m)) none none ht
 rw [h2] at h3
 simp only [Result.andThen, sliced] at h3
 simp [execOp, ho, hx, hl, h3, Result.andThen]
theorem cut_end {α : Type} {enc : α → List Value} {sz : Nat} {w : World} {p : Option Addr} {n c k : Nat} {l : List α} (h : Rx enc sz w (.slice p n c) l) (hc : n ≤ c) (hn : 1 ≤ n) (hk : k ≤ n) :
  ∃ q, (if c = k then p else p.map (·.add (k * sz))) = some q ∧ Rx enc sz w (.slice (some q) (n - k) (c - k)) (l.drop k) := by
 obtain ⟨_, p', c', e, _⟩ := id h
 have hln : l.length = n := by
  simp only [Value.slice.injEq] at e
  exact e.2.1.symm
 obtain ⟨x, hx⟩ : ∃ x, l[0]? = some x := ⟨_, List.getElem?_eq_getElem (by omega)⟩
 obtain ⟨b, o, rfl, _⟩ := h.rd hx
 by_cases e : c = k
 ·rw [if_pos e]
  exact ⟨_, rfl, h.drop hk (fun h => by omega)⟩
 ·rw [if_neg e]
  refine ⟨_, rfl, h.drop hk (fun _ => ?_)⟩
  show some ((⟨b, o, none⟩ : Addr).add (k * sz)) = some ⟨b, o + k * sz, none⟩
  unfold Addr.add
  split
  ·rename_i e0
   rw [e0]
   rfl
  ·rfl
theorem endQ_some {Q : Exit → Act → World → Prop} {l : List Oper} {z : Nat} {a : Act} {w : World} {os : Oper} (h : l[z]? = some os) (hx : ∃ w', (execOp a.eval os).run P w = .ok .skip w' ∧ Q .normal a w') : endQ P Q l z a w := by
 unfold endQ
 rw [h]
 exact hx
theorem endQ_none {Q : Exit → Act → World → Prop} {l : List Oper} {z : Nat} {a : Act} {w : World} (h : l[z]? = none) (hx : Q .normal a w) : endQ P Q l z a w := by
 unfold endQ
 rw [h]
 exact hx
theorem kA_of {A : List (Nat × Tmp)} {K : Tmp → Value → Option Nat} {σ : Nat → Bool} {t : Tmp} {v : Value} (h : consB A σ t = false) : kA A K σ t v = K t v := by
 unfold kA
 rw [if_neg (by rw [h]; exact Bool.false_ne_true)]
theorem kA_free {A : List (Nat × Tmp)} {K : Tmp → Value → Option Nat} {σ : Nat → Bool} {t : Tmp} {v : Value} {b : Nat} (h : kA A K σ t v = some b) : consB A σ t = false := by
 cases e : consB A σ t with
 | false => rfl
 | true =>
  unfold kA at h
  rw [if_pos e] at h
  cases h
theorem not_cons {A : List (Nat × Tmp)} {σ : Nat → Bool} {i : Nat} {p : Tmp} (h : consB A σ p = false) (hm : A.any (fun x => Nat.beq x.1 i && Nat.beq x.2 p) = true) : σ i = false := by
 cases e : σ i with
 | false => rfl
 | true =>
  obtain ⟨x, hx, h1⟩ := List.any_eq_true.1 hm
  simp only [Bool.and_eq_true] at h1
  have hc : consB A σ p = true := List.any_eq_true.2 ⟨x, hx, by rw [Nat.eq_of_beq_eq_true h1.1, e, h1.2]; rfl⟩
  rw [hc] at h
  cases h
theorem cons_only {A : List (Nat × Tmp)} {σ : Nat → Bool} {i : Nat} {p : Tmp} (hm : A.all (fun x => !Nat.beq x.2 p || Nat.beq x.1 i) = true) (h : σ i = false) : consB A σ p = false := by
 cases e : consB A σ p with
 | false => rfl
 | true =>
  obtain ⟨x, hx, h1⟩ := List.any_eq_true.1 e
  simp only [Bool.and_eq_true] at h1
  have h2 := List.all_eq_true.1 hm x hx
  rw [h1.2] at h2
  simp only [Bool.not_true, Bool.false_or] at h2
  rw [Nat.eq_of_beq_eq_true h2, h] at h1
  exact absurd h1.1 Bool.false_ne_true
theorem cons_no {A : List (Nat × Tmp)} {σ : Nat → Bool} {p : Tmp} (hm : A.all (fun x => !Nat.beq x.2 p) = true) : consB A σ p = false := by
 cases e : consB A σ p with
 | false => rfl
 | true =>
  obtain ⟨x, hx, h1⟩ := List.any_eq_true.1 e
  simp only [Bool.and_eq_true] at h1
  have h2 := List.all_eq_true.1 hm x hx
  rw [h1.2] at h2
  cases h2
theorem ifN {b : Bool} {A B : Prop} (f : b = false → A → B) (h : if b = true then True else A) : if b = true then True else B := by
 cases b with
 | true => trivial
 | false => exact f rfl h
theorem ifI {b : Bool} {A : Prop} (h : A) : if b = true then True else A := by
 cases b with
 | true => trivial
 | false => exact h
theorem ifF {b : Bool} {A : Prop} (hb : b = false) (h : if b = true then True else A) : A := by
 subst hb
 exact h
theorem exec_min {o : Oper} {aa : Act} {w : World} (s x : Operand) (ts : Array TypeId) (ho : o.op = .call { callee := .builtin .min, args := #[s, x], argTypes := ts }) (a b : Int) (hs : aa.eval s = .int .i64 a) (hx : aa.eval x = .int .i64 b) : (execOp aa.eval o).run P w = .ok (.value (.int .i64 (min a b))) w := by
 have e : (if b < a then b else a) = min a b := by
  rw [Int.min_def]
  split <;> split <;> omega
 have hrun := run_min_int2 (P := P) (w := w) ts o.type .i64 .i64 a b
 rw [e] at hrun
 simp [execOp, ho, resolve, invoke, builtin, hs, hx, hrun, Result.andThen]
theorem own_some {B n sz : Nat} {W : World} {v : Value} {t : TypeId} {xs : List Value} (h : W.ownsRow B t sz v n xs) (hn : 1 ≤ n) : ∃ p c, v = .slice (some p) n c ∧ n ≤ c := by
 rcases id h.2 with ⟨e, h0⟩ | ⟨g, cap, cur, e, _, _, hc, _⟩
 ·omega
 ·exact ⟨_, cap, e, hc⟩
theorem iteD {b : Bool} {A B A' B' : Prop} (h : if b = true then A else B) (f : A → A') (g : B → B') : if b = true then A' else B' := by
 cases b with
 | true => exact f h
 | false => exact g h
theorem iteE {b : Bool} {A B X : Prop} (h : if b = true then A else B) (f : A → X) (g : B → X) : X := by
 cases b with
 | true => exact f h
 | false => exact g h
theorem iteT {A B : Prop} (h : if true = true then A else B) : A := h
theorem updS_mono {σ : Nat → Bool} {i j : Nat} (h : σ j = true) : updS σ i j = true := by
 unfold updS
 split
 ·rfl
 ·exact h
theorem ifU {σ : Nat → Bool} {i j : Nat} {A B : Prop} (hne : j ≠ i) (f : σ j = false → A → B) (h : if σ j = true then True else A) : if updS σ i j = true then True else B := by
 rw [updS_ne _ hne]
 exact ifN f h
theorem exec_cuth {o : Oper} {aa : Act} {w : World} (t : TypeId) (x hi : Operand) (ho : o.op = .slice t x none (some hi) none) (ht : P.underlying t = some (.slice (P.elem t))) (sz : Nat) (hs : (sizeOf (P.elem t)).run P w = .ok sz w)
  (p : Option Addr) (n c m : Nat) (hx : aa.eval x = .slice p n c) (hl : aa.eval hi = .int .i64 m) (h1 : m ≤ c) (hp : c ≠ 0) :
  (execOp aa.eval o).run P w = .ok (.value (.slice p m c)) w := by
 have h2 := run_slice_h (P := P) w t p n c ht .i64 m (by omega) (by omega)
 rw [hs] at h2
 have h3 := run_sliceAt_slice (P := P) w t (.slice p n c) none (some (.int .i64 m)) none ht
 rw [h2] at h3
 simp only [Result.andThen, sliced] at h3
 have e : p.map (·.add (0 * sz)) = p := by
  cases p with
  | none => rfl
  | some a => simp [Addr.add]
 rw [if_neg hp, e, Nat.sub_zero, Nat.sub_zero, Int.toNat_natCast] at h3
 simp [execOp, ho, hx, hl, h3, Result.andThen]
end
end Go.Proofs.Ytajddejeglhbhaa
