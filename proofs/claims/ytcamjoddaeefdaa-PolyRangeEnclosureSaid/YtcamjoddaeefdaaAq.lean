/-
  slices.AppendSeq, slices.Collect over an iterator that gives six bytes.
-/
import Derived.Test.YtcamjoddaeefdaaKs
import Derived.Test.YtcamjoddaeefdaaTv
import Derived.RangeFuncOne
import Derived.Maps.AppendAt
namespace Go.Proofs.Ytcamjoddaeefdaa
open Go.ChangeShapes Go.WideShapes Go.ChangeAt Go.RowKit Go.Shelf
set_option linter.unusedVariables false
set_option linter.unusedSimpArgs false
set_option maxRecDepth 100000
attribute [local go_sem] Oper.semAt_some

/-- The cells of a row of exponents. -/
def c6 (xs : List E6) : List Value := xs.flatMap fun x => x.1.map (.int .u8 ·)
theorem c6_snoc (xs : List E6) (x : E6) : c6 (xs ++ [x]) = c6 xs ++ x.1.map (.int .u8 ·) := by simp [c6]
theorem info_6 : (Try.prog.info? 37).map (fun i => (i.zero, i.size, i.bytes)) = some (some (.agg #[.int .u8 0, .int .u8 0, .int .u8 0, .int .u8 0, .int .u8 0, .int .u8 0]), 6, 6) := by kernel_rfl
theorem new_6 (w : World) (a0 a1 a2 a3 a4 a5 : Int) : ∀ j u, ([.int .u8 a0, .int .u8 a1, .int .u8 a2, .int .u8 a3, .int .u8 a4, .int .u8 a5] : List Value)[j]? = some u → (w.alloc (.cells #[.int .u8 a0, .int .u8 a1, .int .u8 a2, .int .u8 a3, .int .u8 a4, .int .u8 a5] 37)).cell? ((⟨w.heap.size, 0, none⟩ : Addr).add j) = some u := by
  intro j u hj
  have hk : j < 6 := by have := (List.getElem?_eq_some_iff.1 hj).1; simpa using this
  match j, hk, hj with
  | 0, _, hj => cases hj; simp [Addr.add, go_sem]
  | 1, _, hj => cases hj; simp [Addr.add, go_sem]
  | 2, _, hj => cases hj; simp [Addr.add, go_sem]
  | 3, _, hj => cases hj; simp [Addr.add, go_sem]
  | 4, _, hj => cases hj; simp [Addr.add, go_sem]
  | 5, _, hj => cases hj; simp [Addr.add, go_sem]
theorem one_6 (a0 a1 a2 a3 a4 a5 : Int) : ∀ u ∈ ([.int .u8 a0, .int .u8 a1, .int .u8 a2, .int .u8 a3, .int .u8 a4, .int .u8 a5] : List Value), u.oneCell' = true := by
  intro u hu
  simp at hu
  rcases hu with rfl | rfl | rfl | rfl | rfl | rfl <;> rfl
theorem own_blockE {B : Nat} {W W' : World} {row : Option Nat} (hg : W.grownBy W' row) (hr : ∀ r, row = some r → B ≤ r ∧ ∃ o : Obj, W.heap[r]? = some o ∧ o.isCells = false) {b : Nat} {cs : Array Value} {t : TypeId} {z : Nat × Nat} (h : W.heap[b]? = some (.cells cs t z)) : W'.heap[b]? = some (.cells cs t z) :=
  (hg.block b (Array.getElem?_eq_some_iff.1 h).1 (fun e => by
    obtain ⟨_, o, ho, hc⟩ := hr b e.symm
    rw [h] at ho
    rw [← Option.some.inj ho] at hc
    cases hc)).trans h
set_option maxHeartbeats 4000000 in
theorem apseq_in (n : Nat) (hn : 3 ≤ n) (g : Nat) (lb : Array Value) (eg : ∀ args w, (callFunc g args).run Try.prog w = .ok (.enter g args) w) (S : List E6 → Prop) (N : Nat) (hN : N ≤ 100000000) (w : World)
    (hseq : SeqStopsK Fence.wide (n - 1) Try.prog g lb (fun x : E6 => #[valE x.1]) KeepsWalks S (fun _ => True) N w) :
    CallsIn Fence.wide n Try.prog 92 #[.slice none 0 0, .func (.func g) #[] lb] w fun e w' => ∃ v xs, e = .returned v ∧ S xs ∧ w'.ownsRow w.heap.size 37 6 v xs.length (c6 xs) ∧ Below w.heap.size w w' := by
  have h1 : 1 ≤ n := by omega
  obtain ⟨i0, hi, hz0, hz1, hz2⟩ := info_parts info_6
  refine callsIn_of_wp_marks Try.func92 rfl trivial ?_ rfl
  simp only [Try.ntmps92, List.size_toArray, List.length_cons, List.length_nil, Nat.reduceAdd, Nat.reduceSub, Array.replicate_succ, Array.replicate_zero, List.push_toArray, List.append_toArray, List.nil_append, List.cons_append]
  gi_wp2
  have hb0 : Below w.heap.size w (w.alloc (.cells #[.slice none 0 0] 87)) := (Below.refl _ w).alloc (Nat.le_refl _) _
  have hx0 := Boxed.new w 87 (.slice none 0 0)
  have hs0 : (w.alloc (.cells #[.slice none 0 0] 87)).heap.size = w.heap.size + 1 := by simp
  have hr0 := World.ownsRow_nil (w.alloc (.cells #[.slice none 0 0] 87)) w.heap.size 37 6
  obtain ⟨W0, hW0⟩ : ∃ W0, w.alloc (.cells #[.slice none 0 0] 87) = W0 := ⟨_, rfl⟩
  rw [hW0] at hb0 hx0 hs0 hr0 ⊢
  clear hW0
  refine wpIn_rangeFunc_ownH rfl h1 (gf := g) (lb := lb) rfl trivial eg (hseq) walksK_t (fun W l o o' hl ho hoc hw => KeepsWalks.putObj _ ho hw) hb0 (fun _ => rfl)
    (fun pre W => (∃ v, Boxed W w.heap.size 87 v ∧ W.ownsRow w.heap.size 37 6 v pre.length (c6 pre) ∧ True) ∧ Below w.heap.size w W)
    (fun _ _ _ => False)
    (OwnFrom.and (Own.from (holdsRow_own w.heap.size w.heap.size 87 37 6 (fun pre : List E6 => pre.length) (fun pre => c6 pre) (fun _ _ => True)) _) (ownFrom_below (Nat.le_refl _) (by omega)))
    (fun k => fun s A B row hs hg hr => hs)
    ⟨⟨_, hx0, hr0, trivial⟩, hb0⟩
    (fun x a' W => ∃ X, ByB W X x.1 ∧ a' = { tmps := #[.slice none 0 0, .func (.func g) #[] lb, .pointer (some ⟨w.heap.size, 0, none⟩), undef, .slice none 0 0, .pointer (some ⟨X, 0, none⟩), .func (.func g) #[] lb, valE x.1, undef, undef, undef, undef, undef], defers := [] })
    (fun x a' _ A B row hs hg hr => by obtain ⟨X, h1, h2⟩ := hs; exact ⟨X, own_blockE hg hr h1, h2⟩) ?assign ?body ?done ?stop
  case assign =>
    rintro l pre ⟨x, hx⟩ W K hI hK
    obtain ⟨a0, a1, a2, a3, a4, a5, rfl⟩ := six_of hx
    dsimp only at hK ⊢
    rw [show valE [a0, a1, a2, a3, a4, a5] = .agg #[.int .u8 a0, .int .u8 a1, .int .u8 a2, .int .u8 a3, .int .u8 a4, .int .u8 a5] from rfl] at *
    gi_wp2
    obtain ⟨⟨v, i2, i3, _⟩, i6⟩ := hI
    exact hK _ _ ((KeepsOthers.alloc _ _).from _) (KeepsWalks.alloc _ _) ⟨⟨v, i2.alloc _, i3.alloc _, trivial⟩, i6.alloc i6.size _⟩ ⟨W.heap.size, World.alloc_heap_new W _, rfl⟩
  case body =>
    rintro l pre ⟨x, hx⟩ a' W hl ⟨r, hr⟩ ⟨⟨v, c1, crow, _⟩, hB⟩ ⟨X, hX, rfl⟩ hlt
    obtain ⟨a0, a1, a2, a3, a4, a5, rfl⟩ := six_of hx
    dsimp only at hX ⊢
    rw [show valE [a0, a1, a2, a3, a4, a5] = .agg #[.int .u8 a0, .int .u8 a1, .int .u8 a2, .int .u8 a3, .int .u8 a4, .int .u8 a5] from rfl]
    have x0 := hX.cell (k := 0) rfl
    have x1 := hX.cell (k := 1) rfl
    have x2 := hX.cell (k := 2) rfl
    have x3 := hX.cell (k := 3) rfl
    have x4 := hX.cell (k := 4) rfl
    have x5 := hX.cell (k := 5) rfl
    have y0 := c1.cell
    have hle := hB.size
    have hmax : pre.length + 1 ≤ maxLen := by unfold maxLen; omega
    gi_wp2_with (gi_at_builtin; refine wpListIn_append_own _ rfl (.tmp 8) (.tmp 10) 87 rfl w.heap.size 37 i0 (.agg #[.int .u8 0, .int .u8 0, .int .u8 0, .int .u8 0, .int .u8 0, .int .u8 0]) 6 6 Try.underlying87 hi hz0 hz1 hz2 rfl (by decide) v pre.length _ rfl (crow.alloc _) ⟨W.heap.size, 0, none⟩ 1 1 [.int .u8 a0, .int .u8 a1, .int .u8 a2, .int .u8 a3, .int .u8 a4, .int .u8 a5] rfl rfl (new_6 _ _ _ _ _ _ _) (one_6 _ _ _ _ _ _) hmax (by omega) (by simp; omega) ?_)
    intro v' w6 hown' hgrow _
    obtain ⟨g', cap', rfl⟩ := ownsRow_succ hown'
    obtain ⟨hv1, hv2, hr2, hk2, hb2⟩ := c1.appended (by decide) crow hle (Nat.le_refl _) hown' hgrow
    have hc1 := hv1.cell
    have hf1 := hv1.frozen
    have HR2 : Hid (World.ownsRow _ _ _ _ _ (pre ++ [(⟨[a0, a1, a2, a3, a4, a5], hx⟩ : E6)]).length (c6 (pre ++ [⟨[a0, a1, a2, a3, a4, a5], hx⟩]))) := Lib.hid (by rw [c6_snoc]; simpa using hr2)
    clear hown' hr2
    gi_wp2
    exact ⟨hk2.from _, hk2.walks, ⟨⟨_, hv2, HR2.out, trivial⟩, hB.trans hb2⟩⟩
  case done =>
    rintro D ys W hD hS ⟨⟨v, c1, crow, _⟩, hB⟩ hK
    have hc := c1.cell
    gi_wp2
    refine ⟨by simp, .inl ⟨_, _, rfl, run_takeDeferred hK, ?_⟩⟩
    exact ⟨_, results_tmp rfl _ _ _, v, ys, rfl, hS, ownsRow_putObj crow _ hK rfl, hB.trans (belowK_b (w := w) (Nat.le_refl _) W D _ _ (by omega) hK rfl rfl)⟩
  case stop =>
    rintro D c pre W _ _ h _
    exact h.elim
theorem collect_in (n : Nat) (hn : 4 ≤ n) (g : Nat) (lb : Array Value) (eg : ∀ args w, (callFunc g args).run Try.prog w = .ok (.enter g args) w) (S : List E6 → Prop) (N : Nat) (hN : N ≤ 100000000) (w : World)
    (hseq : SeqStopsK Fence.wide (n - 1 - 1) Try.prog g lb (fun x : E6 => #[valE x.1]) KeepsWalks S (fun _ => True) N w) :
    CallsIn Fence.wide n Try.prog 77 #[.func (.func g) #[] lb] w fun e w' => ∃ v xs, e = .returned v ∧ S xs ∧ w'.ownsRow w.heap.size 37 6 v xs.length (c6 xs) ∧ Below w.heap.size w w' := by
  have h1 : 1 ≤ n := by omega
  have HS := Lib.hid (apseq_in (n - 1) (by omega) g lb eg S N hN w hseq)
  clear hseq eg
  refine callsIn_of_wp Try.func77 rfl trivial ?_ rfl
  simp only [Try.ntmps77, List.size_toArray, List.length_cons, List.length_nil, Nat.reduceAdd, Nat.reduceSub, Array.replicate_succ, Array.replicate_zero, List.push_toArray, List.append_toArray, List.nil_append, List.cons_append]
  gi_wp2_with (refine ⟨trivial, ?_⟩; gi_at_call 92; refine HS.out.mono ?_; rintro e w' ⟨v, xs, rfl, hS, hrow, hb⟩)
  go_ret
  exact ⟨v, xs, rfl, hS, hrow, hb⟩
end Go.Proofs.Ytcamjoddaeefdaa
