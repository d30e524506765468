/-
  Package tape: the closure of Decompile.
  Package tape: Decompile.
  Package tape: the walk of Decompile.
-/
import Derived.Test.YtajddejeglhbhaaU6
import Derived.Maps.AppendAt
import Derived.Laws.EntriesVeiled
namespace Go.Proofs.Ytajddejeglhbhaa
open Go.ChangeShapes Go.WideShapes Go.ChangeAt Go.RowKit Go.Maps
set_option linter.unusedVariables false
set_option linter.unusedSimpArgs false
set_option maxRecDepth 100000
attribute [local irreducible] Calls
/-- The node of an instruction. -/
def ndI (x : Is) : Nd := ⟨x.op, if x.op = 2 then x.a else 0, x.lo, x.hi⟩
/-- The expression of an instruction. -/
def decL (L : List Is) : Nat → Int → List Nd
  | 0, _ => []
  | f + 1, i => match L[i.toNat]? with
    | none => []
    | some x => ndI x :: (opsI x).flatMap (decL L f)
theorem decL_at {L : List Is} {f i : Nat} {x : Is} (h : L[i]? = some x) : decL L (f + 1) i = ndI x :: (opsI x).flatMap (decL L f) := by
  show (match L[((i : Nat) : Int).toNat]? with | none => [] | some x => ndI x :: (opsI x).flatMap (decL L f)) = _
  rw [Int.toNat_natCast, h]
theorem flat_snoc {ys : List Int} {r : Nat} {y : Int} (g : Int → List Nd) (h : ys[r]? = some y) : (ys.take (r + 1)).flatMap g = (ys.take r).flatMap g ++ g y := by
  rw [List.take_add_one, h]
  simp
theorem flat_le (ys : List Int) (r : Nat) (g : Int → List Nd) : ((ys.take r).flatMap g).length ≤ (ys.flatMap g).length := by
  have h : ys.flatMap g = (ys.take r).flatMap g ++ (ys.drop r).flatMap g := by rw [← List.flatMap_append, List.take_append_drop]
  rw [h, List.length_append]
  omega
/-- What the closure finds: the tape, the expression so far, itself. -/
structure DcI (w0 : World) (B tb eb fb : Nat) (C : Array Value) (v : Value) (E : List Nd) (W : World) : Prop where
  far : w0.heap.size ≤ eb ∧ eb < B ∧ tb < B ∧ fb < B ∧ tb ≠ eb ∧ fb ≠ eb
  bel : Below w0.heap.size w0 W
  sz : B ≤ W.heap.size
  tp : W.heap[tb]? = some (.cells C 25 (0, 0))
  be : Boxed W eb 54 v
  bf : Boxed W fb 85 (.func (.func 49) #[] #[.pointer (some ⟨tb, 0, none⟩), .pointer (some ⟨eb, 0, none⟩), .pointer (some ⟨fb, 0, none⟩)])
  row : W.ownsRow B 62 4 v E.length (cr encN E)
section
variable {w0 W W' : World} {B tb eb fb : Nat} {C : Array Value} {v v' : Value} {E E' : List Nd}
theorem DcI.grow (h : DcI w0 B tb eb fb C v E W) (hB : Below W.heap.size W W') : DcI w0 B tb eb fb C v E W' := by
  obtain ⟨f1, f2, f3, f4, f5, f6⟩ := h.far
  have hs := h.sz
  exact ⟨h.far, h.bel.trans (hB.mono h.bel.size), Nat.le_trans hs hB.size, (hB.block tb (by omega)).trans h.tp, (hB.block eb (by omega)).trans h.be, (hB.block fb (by omega)).trans h.bf, own_keptN h.row hB⟩
theorem DcI.put (h : DcI w0 B tb eb fb C v E W) (hown : W'.ownsRow B 62 4 v' E'.length (cr encN E')) (hg : W.grownBy W' v.ownBlock) (hat : v'.ownBlock = v.ownBlock ∨ v'.ownBlock = some W.heap.size) :
    DcI w0 B tb eb fb C v' E' (W'.setCell ⟨eb, 0, none⟩ v') ∧ Ext eb eb v v' W (W'.setCell ⟨eb, 0, none⟩ v') := by
  obtain ⟨f1, f2, f3, f4, f5, f6⟩ := h.far
  have hs := h.sz
  have hlt : ∀ k, k < B → W'.heap[k]? = W.heap[k]? := fun k hk => hg.block k (by omega) (fun e => by have := (h.row.lt k e.symm).1; omega)
  have hb := hlt eb f2
  have hbe : W'.heap[eb]? = some (.cells #[v] 54 (0, 0)) := hb.trans h.be
  have hset := grownBy_setN W' ⟨eb, 0, none⟩ v'
  have hne : ∀ k, k < W'.heap.size → k ≠ eb → (W'.setCell ⟨eb, 0, none⟩ v').heap[k]? = W'.heap[k]? := fun k hk hn => hset.block k hk (fun e => hn (Option.some.inj e))
  have hsz := hg.size
  have h2 : Below B W W' := ⟨hg.os, hg.tape, hg.output, hg.size, hlt⟩
  have h3 : Below w0.heap.size w0 (W'.setCell ⟨eb, 0, none⟩ v') := (h.bel.trans (h2.mono (by omega))).setCell (p := ⟨eb, 0, none⟩) f1 v'
  refine ⟨⟨h.far, h3, Nat.le_trans (Nat.le_trans hs hsz) hset.size, ((hne tb (by omega) f5).trans (hlt tb f3)).trans h.tp, cellsT_setN (o := 0) (u := v') hbe, ((hne fb (by omega) f6).trans (hlt fb f4)).trans h.bf, hown.kept hset ?_⟩, ⟨hset.os.trans hg.os, hset.tape.trans hg.tape, hset.output.trans hg.output, Nat.le_trans hsz hset.size, fun k hk h1 _ h3 => (hne k (by omega) h1).trans (hg.block k hk h3), fun g hg' => ?_⟩⟩
  · exact own_ne fun g hg' e => by
      have := (hown.lt g hg').1
      subst e
      omega
  · rcases hat with e | e
    · exact .inl (e ▸ hg')
    · rw [e] at hg'
      exact .inr (Nat.le_of_eq (Option.some.inj hg'))
end
theorem info_ndB : (Try.prog.info? 62).map (fun i => (i.zero, i.size, i.bytes)) = some (some (.agg #[.int .i64 0, .int .i64 0, .agg #[.int .i64 0, .int .i64 0]]), 4, 32) ∨ True := .inr trivial
theorem new_n (w : World) (x : Nd) : ∀ j u, (encN x)[j]? = some u → (w.alloc (.cells #[.int .i64 x.op, .int .i64 x.n, .int .i64 x.lo, .int .i64 x.hi] 62)).cell? ((⟨w.heap.size, 0, none⟩ : Addr).add j) = some u := by
  intro j u hj
  have hk : j < 4 := by have := (List.getElem?_eq_some_iff.1 hj).1; simpa [encN] using this
  unfold encN at hj
  match j, hk, hj with
  | 0, _, hj => cases hj; simp [Addr.add, go_sem]
  | 1, _, hj => cases hj; simp [Addr.add, go_sem]
  | 2, _, hj => cases hj; simp [Addr.add, go_sem]
  | 3, _, hj => cases hj; simp [Addr.add, go_sem]
theorem one_n (x : Nd) : ∀ u ∈ encN x, u.oneCell' = true := by
  intro u hu
  simp only [encN, List.mem_cons, List.not_mem_nil, or_false] at hu
  rcases hu with rfl | rfl | rfl | rfl <;> rfl
theorem px_ext {W W' : World} {eb n c : Nat} {u u' : Value} {p : Option Addr} {l : List Int} (h : Px W (.slice p n c) l) (hp : ∀ a : Addr, p = some a → a.block < W.heap.size ∧ a.block ≠ eb ∧ some a.block ≠ u.ownBlock) (E : Ext eb eb u u' W W') : Px W' (.slice p n c) l := by
  obtain ⟨h1, q, c', e, h2⟩ := h
  simp only [Value.slice.injEq] at e
  obtain ⟨rfl, rfl, rfl⟩ := e
  refine ⟨h1, _, _, rfl, fun i x hx => ?_⟩
  obtain ⟨b, o, rfl, h3, h4⟩ := h2 i x hx
  obtain ⟨g1, g2, g3⟩ := hp _ rfl
  have hb := E.blk b g1 g2 g2 g3
  exact ⟨b, o, rfl, Nat.lt_of_lt_of_le h3 E.size, fun j v hv => (World.cell?_of_block (a := ⟨b, o + i * 1 + j, none⟩) hb).trans (h4 j v hv)⟩
theorem opsof_new (op a b lo hi : Int) (w : World) : Calls Try.prog 47 #[.agg #[.int .i64 op, .int .i64 a, .int .i64 b, .int .i64 lo, .int .i64 hi]] w fun e w' => (∃ p c, e = .returned (.slice p (opsI ⟨op, a, b, lo, hi⟩).length c) ∧ Px w' (.slice p (opsI ⟨op, a, b, lo, hi⟩).length c) (opsI ⟨op, a, b, lo, hi⟩) ∧ ∀ x : Addr, p = some x → w.heap.size ≤ x.block ∧ x.block < w'.heap.size) ∧ Below w.heap.size w w' := by
  have hb : Below w.heap.size w (w.alloc (.cells #[.int .i64 op, .int .i64 a, .int .i64 b, .int .i64 lo, .int .i64 hi] 59)) := (Below.refl _ _).alloc (Nat.le_refl _) _
  have hx := IsC.new w ⟨op, a, b, lo, hi⟩
  have x0 := hx.c0
  have x1 := hx.c1
  have x2 := hx.c2
  dsimp only at x0 x1 x2
  by_cases h4 : op = 4
  · subst h4
    rw [show opsI ⟨4, a, b, lo, hi⟩ = [a] from rfl]
    go_enter Try.func47, Try.ntmps47
    go_wp2_with (fail)
    go_ret
    refine ⟨⟨_, _, rfl, rx_newz _ [a] (alloc_sz _ _) rfl rfl (by simp [maxLen]), fun x hx => by cases hx; rw [alloc_sz, alloc_sz]; dsimp only; omega⟩, hb.alloc (by rw [alloc_sz]; omega) _⟩
  have q4 : (op == 4) = false := by simpa using h4
  by_cases h5 : op = 5
  · subst h5
    rw [show opsI ⟨5, a, b, lo, hi⟩ = [a] from rfl]
    go_enter Try.func47, Try.ntmps47
    go_wp2_with (fail)
    go_ret
    refine ⟨⟨_, _, rfl, rx_newz _ [a] (alloc_sz _ _) rfl rfl (by simp [maxLen]), fun x hx => by cases hx; rw [alloc_sz, alloc_sz]; dsimp only; omega⟩, hb.alloc (by rw [alloc_sz]; omega) _⟩
  have q5 : (op == 5) = false := by simpa using h5
  by_cases h6 : op = 6
  · subst h6
    rw [show opsI ⟨6, a, b, lo, hi⟩ = [a] from rfl]
    go_enter Try.func47, Try.ntmps47
    go_wp2_with (fail)
    go_ret
    refine ⟨⟨_, _, rfl, rx_newz _ [a] (alloc_sz _ _) rfl rfl (by simp [maxLen]), fun x hx => by cases hx; rw [alloc_sz, alloc_sz]; dsimp only; omega⟩, hb.alloc (by rw [alloc_sz]; omega) _⟩
  have q6 : (op == 6) = false := by simpa using h6
  by_cases h7 : op = 7
  · subst h7
    rw [show opsI ⟨7, a, b, lo, hi⟩ = [a, b] from rfl]
    go_enter Try.func47, Try.ntmps47
    go_wp2_with (fail)
    go_ret
    refine ⟨⟨_, _, rfl, rx_newz _ [a, b] (alloc_sz _ _) rfl rfl (by simp [maxLen]), fun x hx => by cases hx; rw [alloc_sz, alloc_sz]; dsimp only; omega⟩, hb.alloc (by rw [alloc_sz]; omega) _⟩
  have q7 : (op == 7) = false := by simpa using h7
  by_cases h8 : op = 8
  · subst h8
    rw [show opsI ⟨8, a, b, lo, hi⟩ = [a, b] from rfl]
    go_enter Try.func47, Try.ntmps47
    go_wp2_with (fail)
    go_ret
    refine ⟨⟨_, _, rfl, rx_newz _ [a, b] (alloc_sz _ _) rfl rfl (by simp [maxLen]), fun x hx => by cases hx; rw [alloc_sz, alloc_sz]; dsimp only; omega⟩, hb.alloc (by rw [alloc_sz]; omega) _⟩
  have q8 : (op == 8) = false := by simpa using h8
  by_cases h9 : op = 9
  · subst h9
    rw [show opsI ⟨9, a, b, lo, hi⟩ = [a, b] from rfl]
    go_enter Try.func47, Try.ntmps47
    go_wp2_with (fail)
    go_ret
    refine ⟨⟨_, _, rfl, rx_newz _ [a, b] (alloc_sz _ _) rfl rfl (by simp [maxLen]), fun x hx => by cases hx; rw [alloc_sz, alloc_sz]; dsimp only; omega⟩, hb.alloc (by rw [alloc_sz]; omega) _⟩
  have q9 : (op == 9) = false := by simpa using h9
  by_cases h10 : op = 10
  · subst h10
    rw [show opsI ⟨10, a, b, lo, hi⟩ = [a, b] from rfl]
    go_enter Try.func47, Try.ntmps47
    go_wp2_with (fail)
    go_ret
    refine ⟨⟨_, _, rfl, rx_newz _ [a, b] (alloc_sz _ _) rfl rfl (by simp [maxLen]), fun x hx => by cases hx; rw [alloc_sz, alloc_sz]; dsimp only; omega⟩, hb.alloc (by rw [alloc_sz]; omega) _⟩
  have q10 : (op == 10) = false := by simpa using h10
  rw [show opsI ⟨op, a, b, lo, hi⟩ = [] by unfold opsI; dsimp only; rw [if_neg (by omega), if_neg (by omega)]]
  go_enter Try.func47, Try.ntmps47
  go_wp2_with (fail)
  go_ret
  exact ⟨⟨_, _, rfl, ⟨by simp [maxLen], none, 0, rfl, fun i x h => by simp at h⟩, fun x hx => by cases hx⟩, hb⟩
set_option maxHeartbeats 16000000 in
theorem dec_step (w0 : World) (B tb eb fb : Nat) (n vo : Value) (pl : Option Addr) (cl : Nat) (L : List Is) (hl : Ix w0 (.slice pl L.length cl) L) (h400 : L.length ≤ 400) (f i : Nat) (op a b lo hi' : Int) (hx : L[i]? = some ⟨op, a, b, lo, hi'⟩) (hop : op ≠ 2) (hyn : ∀ y ∈ opsI ⟨op, a, b, lo, hi'⟩, 0 ≤ y)
    (IH : ∀ y ∈ opsI ⟨op, a, b, lo, hi'⟩, ∀ j : Nat, y = j → ∀ (v : Value) (E : List Nd) (W : World), DcI w0 B tb eb fb #[n, .slice pl L.length cl, vo] v E W → E.length + (decL L f j).length ≤ 1000 → Calls Try.prog 49 #[.int .i64 j, .pointer (some ⟨tb, 0, none⟩), .pointer (some ⟨eb, 0, none⟩), .pointer (some ⟨fb, 0, none⟩)] W fun e w' => ∃ v', e = .returned (.tuple #[]) ∧ DcI w0 B tb eb fb #[n, .slice pl L.length cl, vo] v' (E ++ decL L f j) w' ∧ Ext eb eb v v' W w') : ∀ (v : Value) (E : List Nd) (W : World), DcI w0 B tb eb fb #[n, .slice pl L.length cl, vo] v E W → E.length + (decL L (f + 1) i).length ≤ 1000 → Calls Try.prog 49 #[.int .i64 i, .pointer (some ⟨tb, 0, none⟩), .pointer (some ⟨eb, 0, none⟩), .pointer (some ⟨fb, 0, none⟩)] W fun e w' => ∃ v', e = .returned (.tuple #[]) ∧ DcI w0 B tb eb fb #[n, .slice pl L.length cl, vo] v' (E ++ decL L (f + 1) i) w' ∧ Ext eb eb v v' W w' := by
  intro v E W hd hlen
  obtain ⟨i0, hi, hz0, hz1, hz2⟩ := info_parts info_nd
  have hdec := decL_at (f := f) hx
  rw [show ndI ⟨op, a, b, lo, hi'⟩ = ⟨op, 0, lo, hi'⟩ by unfold ndI; dsimp only; rw [if_neg hop]] at hdec
  rw [hdec] at hlen ⊢
  have hol := opsI_le ⟨op, a, b, lo, hi'⟩
  have KO := Lib.hid (fun w => opsof_new op a b lo hi' w)
  obtain ⟨ops, hops⟩ : ∃ ops, opsI ⟨op, a, b, lo, hi'⟩ = ops := ⟨_, rfl⟩
  rw [hops] at hdec hlen IH hol KO hyn ⊢
  simp only [List.length_cons] at hlen
  have hi1 : (i : Int) < L.length := by have := (List.getElem?_eq_some_iff.1 hx).1; omega
  obtain ⟨bb, o, rfl, hbs, rd⟩ := is_rd hl hx
  obtain ⟨f0, f1, f2, f3, f4⟩ := rd ⟨W, hd.bel⟩
  dsimp only at f0 f1 f2 f3 f4
  have t1 : W.cell? ⟨tb, 1, none⟩ = some (.slice (some ⟨bb, o, none⟩) L.length cl) := heapN_cellj hd.tp (k := 1) rfl
  have hfar := hd.far
  have hsz := hd.sz
  obtain ⟨pe, ce, rfl⟩ := own_slice hd.row
  have bA : Below W.heap.size W (W.alloc (.cells #[.int .i64 op, .int .i64 a, .int .i64 b, .int .i64 lo, .int .i64 hi'] 59)) := (Below.refl _ _).alloc (Nat.le_refl _) _
  have bB : Below W.heap.size W ((W.alloc (.cells #[.int .i64 op, .int .i64 a, .int .i64 b, .int .i64 lo, .int .i64 hi'] 59)).alloc (.cells #[.int .i64 op, .int .i64 0, .int .i64 lo, .int .i64 hi'] 62)) := bA.alloc bA.size _
  have bC : Below W.heap.size W (((W.alloc (.cells #[.int .i64 op, .int .i64 a, .int .i64 b, .int .i64 lo, .int .i64 hi'] 59)).alloc (.cells #[.int .i64 op, .int .i64 0, .int .i64 lo, .int .i64 hi'] 62)).alloc (.cells #[.int .i64 op, .int .i64 0, .int .i64 lo, .int .i64 hi'] 62)) := bB.alloc bB.size _
  have k0 : ((W.alloc (.cells #[.int .i64 op, .int .i64 a, .int .i64 b, .int .i64 lo, .int .i64 hi'] 59)).alloc (.cells #[.int .i64 op, .int .i64 0, .int .i64 lo, .int .i64 hi'] 62)).cell? ⟨eb, 0, none⟩ = some (.slice pe E.length ce) := (hd.grow bB).be.cell
  have DC := Lib.hid (hd.grow bC)
  have z0 : ∀ W6 : World, (((W.alloc (.cells #[.int .i64 op, .int .i64 a, .int .i64 b, .int .i64 lo, .int .i64 hi'] 59)).alloc (.cells #[.int .i64 op, .int .i64 0, .int .i64 lo, .int .i64 hi'] 62)).alloc (.cells #[.int .i64 op, .int .i64 0, .int .i64 lo, .int .i64 hi'] 62)).grownBy W6 (Value.slice pe E.length ce).ownBlock → W6.frozen? ⟨eb, 0, none⟩ = false ∧ ∃ u, W6.cell? ⟨eb, 0, none⟩ = some u := fun W6 hg => by
    have hb : W6.heap[eb]? = some (.cells #[.slice pe E.length ce] 54 (0, 0)) := (hg.block eb (by have := bC.size; omega) (fun e => by have := (hd.row.lt eb e.symm).1; omega)).trans (hd.grow bC).be
    exact ⟨by simp [World.frozen?, hb], _, heapN_cellj hb (k := 0) rfl⟩
  have iA := (IsC.new W ⟨op, a, b, lo, hi'⟩)
  have HZ := Lib.hid z0
  have HIA := Lib.hid iA
  have HIH := Lib.hid IH
  have BC := Lib.hid bC
  have DW := Lib.hid hd
  have HT := Lib.hid hlen
  have hle : E.length + 1 ≤ 1000 := by omega
  have q2 : (op == 2) = false := by simpa using hop
  clear hd rd hx z0 iA IH hlen hl hdec hops bA bB bC
  go_enter Try.func49, Try.ntmps49
  go_wp2_with (at_builtin; refine wpList_append_own_at _ rfl (.tmp 25) (.tmp 27) 54 rfl B 62 i0 _ 4 32 Try.underlying54 hi hz0 hz1 hz2 rfl (by decide) (.slice pe E.length ce) E.length _ rfl DC.out.row ⟨W.heap.size + 2, 0, none⟩ 1 1 (encN ⟨op, 0, lo, hi'⟩) rfl rfl (by have := new_n ((W.alloc (.cells #[.int .i64 op, .int .i64 a, .int .i64 b, .int .i64 lo, .int .i64 hi'] 59)).alloc (.cells #[.int .i64 op, .int .i64 0, .int .i64 lo, .int .i64 hi'] 62)) ⟨op, 0, lo, hi'⟩; rw [alloc_sz, alloc_sz] at this; exact this) (one_n _) (by unfold maxLen; omega) (by omega) (by rw [alloc_sz, alloc_sz, alloc_sz]; omega) ?_)
  intro v6 W6 hown hg _ hat
  obtain ⟨p6, c6, rfl⟩ := own_slice hown
  have e1 : (E ++ [(⟨op, 0, lo, hi'⟩ : Nd)]).length = E.length + 1 := by simp
  have hown2 : W6.ownsRow B 62 4 (.slice p6 (E.length + 1) c6) (E ++ [(⟨op, 0, lo, hi'⟩ : Nd)]).length (cr encN (E ++ [(⟨op, 0, lo, hi'⟩ : Nd)])) := by rw [e1, cr_snoc]; exact hown
  have hat2 : (Value.slice p6 (E.length + 1) c6).ownBlock = (Value.slice pe E.length ce).ownBlock ∨ (Value.slice p6 (E.length + 1) c6).ownBlock = some (((W.alloc (.cells #[.int .i64 op, .int .i64 a, .int .i64 b, .int .i64 lo, .int .i64 hi'] 59)).alloc (.cells #[.int .i64 op, .int .i64 0, .int .i64 lo, .int .i64 hi'] 62)).alloc (.cells #[.int .i64 op, .int .i64 0, .int .i64 lo, .int .i64 hi'] 62)).heap.size := by rw [alloc_sz, alloc_sz, alloc_sz]; exact hat
  obtain ⟨d6, e6⟩ := DC.out.put hown2 hg hat2
  obtain ⟨y0, yu, y1⟩ := HZ.out W6 hg
  have hne : W.heap.size ≠ eb := by omega
  have i6 : IsC (W6.setCell ⟨eb, 0, none⟩ (.slice p6 (E.length + 1) c6)) W.heap.size ⟨op, a, b, lo, hi'⟩ := (e6.blk W.heap.size (by rw [alloc_sz, alloc_sz, alloc_sz]; omega) hne hne (fun h => by have := (DW.out.row.lt _ h.symm).2; omega)).trans ((((Below.refl _ ((W.alloc (.cells #[.int .i64 op, .int .i64 a, .int .i64 b, .int .i64 lo, .int .i64 hi'] 59)).alloc (.cells #[.int .i64 op, .int .i64 0, .int .i64 lo, .int .i64 hi'] 62))).alloc (Nat.le_refl _) _).block W.heap.size (by rw [alloc_sz, alloc_sz]; omega)).trans ((((Below.refl _ (W.alloc (.cells #[.int .i64 op, .int .i64 a, .int .i64 b, .int .i64 lo, .int .i64 hi'] 59))).alloc (Nat.le_refl _) _).block W.heap.size (by rw [alloc_sz]; omega)).trans HIA.out))
  have x0 := i6.c0
  have x1 := i6.c1
  have x2 := i6.c2
  have x3 := i6.c3
  have x4 := i6.c4
  dsimp only at x0 x1 x2 x3 x4
  have E6 := Lib.hid ((Ext.of (bl := eb) (bm := eb) (u := .slice pe E.length ce) BC.out).trans e6)
  have D6 := Lib.hid d6
  clear hown hg hat e1 hown2 hat2 d6 e6 i6 HZ DC BC HIA f0 f1 f2 f3 f4 t1 k0
  go_wp2_with (fail)
  refine (KO.out _).mono ?_
  rintro e w8 ⟨⟨po, co, rfl, hpo, hpl⟩, hB8⟩
  have HD := Lib.hid (D6.out.grow hB8)
  have HE := Lib.hid (E6.out.trans (Ext.of hB8))
  have hpl2 : ∀ x : Addr, po = some x → x.block < w8.heap.size ∧ x.block ≠ eb ∧ some x.block ≠ (Value.slice p6 (E.length + 1) c6).ownBlock := fun x hx => by
    have h := hpl x hx
    have h1 := D6.out.sz
    refine ⟨h.2, by omega, fun e => ?_⟩
    have := (D6.out.row.lt _ e.symm).2
    omega
  have HP := Lib.hid hpo
  have HPL := Lib.hid hpl2
  clear hpo hpl hpl2 hB8 D6 E6 KO x0 x1 x2 x3 x4 y0 y1
  go_wp2_with (fail)
  go_loopw [32] (fun i wr => ∃ (r : Nat) (v1 : Value), i = .int .i64 r ∧ r ≤ ops.length ∧ Hid (DcI w0 B tb eb fb #[n, .slice (some ⟨bb, o, none⟩) L.length cl, vo] v1 ((E ++ [(⟨op, 0, lo, hi'⟩ : Nd)]) ++ (ops.take r).flatMap (decL L f)) wr) ∧ Hid (Ext eb eb (.slice pe E.length ce) v1 W wr) ∧ Hid (Px wr (.slice po ops.length co) ops) ∧ Hid (∀ x : Addr, po = some x → x.block < wr.heap.size ∧ x.block ≠ eb ∧ some x.block ≠ v1.ownBlock)) (fun i _ => ops.length - (intOf i).toNat)
  case atStart => exact ⟨0, _, rfl, Nat.zero_le _, Lib.hid (by simpa using HD.out), HE, HP, HPL⟩
  case round =>
    clear HD HE HP HPL
    obtain ⟨r, v1, rfl, hr, HD, HE, HP, HPL⟩ := hrel
    by_cases hlr : r < ops.length
    · have i3 : (r : Int) < ops.length := by omega
      obtain ⟨y, hy⟩ : ∃ y, ops[r]? = some y := ⟨_, List.getElem?_eq_getElem hlr⟩
      have hym := List.mem_of_getElem? hy
      obtain ⟨j, rfl⟩ : ∃ j : Nat, y = j := ⟨y.toNat, by have := hyn y hym; omega⟩
      obtain ⟨b2, o2, rfl, hb2, rd2⟩ := px_rd HP.out hy
      have r0 := rd2 ⟨wr, Below.refl _ _⟩
      dsimp only at r0
      have hfl := flat_snoc (decL L f) hy
      have hfe := flat_le ops (r + 1) (decL L f)
      rw [hfl, List.length_append] at hfe
      have hlen3 : ((E ++ [(⟨op, 0, lo, hi'⟩ : Nd)]) ++ (ops.take r).flatMap (decL L f)).length + (decL L f j).length ≤ 1000 := by
        have := HT.out
        simp only [List.length_append, List.length_singleton]
        omega
      have KI := Lib.hid (HIH.out _ hym j rfl v1 _ wr HD.out hlen3)
      have k0 := HD.out.bf.cell
      have HFL := Lib.hid hfl
      clear rd2 hy hfl hfe hlen3 hym
      go_wp2_with (fail)
      refine KI.out.mono ?_
      rintro e w9 ⟨v9, rfl, d9, e9⟩
      have HD9 := Lib.hid d9
      have HE9 := Lib.hid (HE.out.trans e9)
      have HP9 := Lib.hid (px_ext HP.out HPL.out e9)
      have hpl9 : ∀ x : Addr, some ⟨b2, o2, none⟩ = some x → x.block < w9.heap.size ∧ x.block ≠ eb ∧ some x.block ≠ v9.ownBlock := fun x hx => by
        obtain ⟨g1, g2, g3⟩ := HPL.out x hx
        refine ⟨Nat.lt_of_lt_of_le g1 e9.size, g2, fun e => ?_⟩
        rcases e9.own _ e.symm with h | h
        · exact g3 h.symm
        · omega
      have HPL9 := Lib.hid hpl9
      clear d9 e9 hpl9 KI k0 r0
      go_wp2_with (fail)
      go_roundw
      case rel => exact ⟨r + 1, v9, by go_num, by omega, Lib.hid (by rw [HFL.out, ← List.append_assoc]; exact HD9.out), HE9, HP9, HPL9⟩
      case measure => simp [intOf]; omega
    · obtain rfl : r = ops.length := by omega
      have i3 : ¬ (ops.length : Int) < ops.length := by omega
      have h := HD.out
      rw [List.take_length, List.append_assoc] at h
      have HH := Lib.hid h
      clear h
      go_wp2_with (fail)
      exact bodyPost_end (v := .tuple #[]) (by simp [results, Try.results49, go_sem]) rfl ⟨rfl, v1, HH.out, HE.out⟩
set_option maxHeartbeats 16000000 in
theorem dec_step2 (w0 : World) (B tb eb fb : Nat) (n vo : Value) (pl : Option Addr) (cl : Nat) (L : List Is) (hl : Ix w0 (.slice pl L.length cl) L) (h400 : L.length ≤ 400) (f i : Nat) (a b lo hi' : Int) (hx : L[i]? = some ⟨2, a, b, lo, hi'⟩)  (hyn : ∀ y ∈ opsI ⟨2, a, b, lo, hi'⟩, 0 ≤ y)
    (IH : ∀ y ∈ opsI ⟨2, a, b, lo, hi'⟩, ∀ j : Nat, y = j → ∀ (v : Value) (E : List Nd) (W : World), DcI w0 B tb eb fb #[n, .slice pl L.length cl, vo] v E W → E.length + (decL L f j).length ≤ 1000 → Calls Try.prog 49 #[.int .i64 j, .pointer (some ⟨tb, 0, none⟩), .pointer (some ⟨eb, 0, none⟩), .pointer (some ⟨fb, 0, none⟩)] W fun e w' => ∃ v', e = .returned (.tuple #[]) ∧ DcI w0 B tb eb fb #[n, .slice pl L.length cl, vo] v' (E ++ decL L f j) w' ∧ Ext eb eb v v' W w') : ∀ (v : Value) (E : List Nd) (W : World), DcI w0 B tb eb fb #[n, .slice pl L.length cl, vo] v E W → E.length + (decL L (f + 1) i).length ≤ 1000 → Calls Try.prog 49 #[.int .i64 i, .pointer (some ⟨tb, 0, none⟩), .pointer (some ⟨eb, 0, none⟩), .pointer (some ⟨fb, 0, none⟩)] W fun e w' => ∃ v', e = .returned (.tuple #[]) ∧ DcI w0 B tb eb fb #[n, .slice pl L.length cl, vo] v' (E ++ decL L (f + 1) i) w' ∧ Ext eb eb v v' W w' := by
  intro v E W hd hlen
  obtain ⟨i0, hi, hz0, hz1, hz2⟩ := info_parts info_nd
  have hdec := decL_at (f := f) hx
  rw [show ndI ⟨2, a, b, lo, hi'⟩ = ⟨2, a, lo, hi'⟩ by rfl] at hdec
  rw [hdec] at hlen ⊢
  have hol := opsI_le ⟨2, a, b, lo, hi'⟩
  have KO := Lib.hid (fun w => opsof_new 2 a b lo hi' w)
  obtain ⟨ops, hops⟩ : ∃ ops, opsI ⟨2, a, b, lo, hi'⟩ = ops := ⟨_, rfl⟩
  rw [hops] at hdec hlen IH hol KO hyn ⊢
  simp only [List.length_cons] at hlen
  have hi1 : (i : Int) < L.length := by have := (List.getElem?_eq_some_iff.1 hx).1; omega
  obtain ⟨bb, o, rfl, hbs, rd⟩ := is_rd hl hx
  obtain ⟨f0, f1, f2, f3, f4⟩ := rd ⟨W, hd.bel⟩
  dsimp only at f0 f1 f2 f3 f4
  have t1 : W.cell? ⟨tb, 1, none⟩ = some (.slice (some ⟨bb, o, none⟩) L.length cl) := heapN_cellj hd.tp (k := 1) rfl
  have hfar := hd.far
  have hsz := hd.sz
  obtain ⟨pe, ce, rfl⟩ := own_slice hd.row
  have bA : Below W.heap.size W (W.alloc (.cells #[.int .i64 2, .int .i64 a, .int .i64 b, .int .i64 lo, .int .i64 hi'] 59)) := (Below.refl _ _).alloc (Nat.le_refl _) _
  have bB : Below W.heap.size W ((W.alloc (.cells #[.int .i64 2, .int .i64 a, .int .i64 b, .int .i64 lo, .int .i64 hi'] 59)).alloc (.cells #[.int .i64 2, .int .i64 a, .int .i64 lo, .int .i64 hi'] 62)) := bA.alloc bA.size _
  have bC : Below W.heap.size W (((W.alloc (.cells #[.int .i64 2, .int .i64 a, .int .i64 b, .int .i64 lo, .int .i64 hi'] 59)).alloc (.cells #[.int .i64 2, .int .i64 a, .int .i64 lo, .int .i64 hi'] 62)).alloc (.cells #[.int .i64 2, .int .i64 a, .int .i64 lo, .int .i64 hi'] 62)) := bB.alloc bB.size _
  have k0 : ((W.alloc (.cells #[.int .i64 2, .int .i64 a, .int .i64 b, .int .i64 lo, .int .i64 hi'] 59)).alloc (.cells #[.int .i64 2, .int .i64 a, .int .i64 lo, .int .i64 hi'] 62)).cell? ⟨eb, 0, none⟩ = some (.slice pe E.length ce) := (hd.grow bB).be.cell
  have DC := Lib.hid (hd.grow bC)
  have z0 : ∀ W6 : World, (((W.alloc (.cells #[.int .i64 2, .int .i64 a, .int .i64 b, .int .i64 lo, .int .i64 hi'] 59)).alloc (.cells #[.int .i64 2, .int .i64 a, .int .i64 lo, .int .i64 hi'] 62)).alloc (.cells #[.int .i64 2, .int .i64 a, .int .i64 lo, .int .i64 hi'] 62)).grownBy W6 (Value.slice pe E.length ce).ownBlock → W6.frozen? ⟨eb, 0, none⟩ = false ∧ ∃ u, W6.cell? ⟨eb, 0, none⟩ = some u := fun W6 hg => by
    have hb : W6.heap[eb]? = some (.cells #[.slice pe E.length ce] 54 (0, 0)) := (hg.block eb (by have := bC.size; omega) (fun e => by have := (hd.row.lt eb e.symm).1; omega)).trans (hd.grow bC).be
    exact ⟨by simp [World.frozen?, hb], _, heapN_cellj hb (k := 0) rfl⟩
  have iA := (IsC.new W ⟨2, a, b, lo, hi'⟩)
  have HZ := Lib.hid z0
  have HIA := Lib.hid iA
  have HIH := Lib.hid IH
  have BC := Lib.hid bC
  have DW := Lib.hid hd
  have HT := Lib.hid hlen
  have hle : E.length + 1 ≤ 1000 := by omega
  clear hd rd hx z0 iA IH hlen hl hdec hops bA bB bC
  go_enter Try.func49, Try.ntmps49
  go_wp2_with (at_builtin; refine wpList_append_own_at _ rfl (.tmp 25) (.tmp 27) 54 rfl B 62 i0 _ 4 32 Try.underlying54 hi hz0 hz1 hz2 rfl (by decide) (.slice pe E.length ce) E.length _ rfl DC.out.row ⟨W.heap.size + 2, 0, none⟩ 1 1 (encN ⟨2, a, lo, hi'⟩) rfl rfl (by have := new_n ((W.alloc (.cells #[.int .i64 2, .int .i64 a, .int .i64 b, .int .i64 lo, .int .i64 hi'] 59)).alloc (.cells #[.int .i64 2, .int .i64 a, .int .i64 lo, .int .i64 hi'] 62)) ⟨2, a, lo, hi'⟩; rw [alloc_sz, alloc_sz] at this; exact this) (one_n _) (by unfold maxLen; omega) (by omega) (by rw [alloc_sz, alloc_sz, alloc_sz]; omega) ?_)
  intro v6 W6 hown hg _ hat
  obtain ⟨p6, c6, rfl⟩ := own_slice hown
  have e1 : (E ++ [(⟨2, a, lo, hi'⟩ : Nd)]).length = E.length + 1 := by simp
  have hown2 : W6.ownsRow B 62 4 (.slice p6 (E.length + 1) c6) (E ++ [(⟨2, a, lo, hi'⟩ : Nd)]).length (cr encN (E ++ [(⟨2, a, lo, hi'⟩ : Nd)])) := by rw [e1, cr_snoc]; exact hown
  have hat2 : (Value.slice p6 (E.length + 1) c6).ownBlock = (Value.slice pe E.length ce).ownBlock ∨ (Value.slice p6 (E.length + 1) c6).ownBlock = some (((W.alloc (.cells #[.int .i64 2, .int .i64 a, .int .i64 b, .int .i64 lo, .int .i64 hi'] 59)).alloc (.cells #[.int .i64 2, .int .i64 a, .int .i64 lo, .int .i64 hi'] 62)).alloc (.cells #[.int .i64 2, .int .i64 a, .int .i64 lo, .int .i64 hi'] 62)).heap.size := by rw [alloc_sz, alloc_sz, alloc_sz]; exact hat
  obtain ⟨d6, e6⟩ := DC.out.put hown2 hg hat2
  obtain ⟨y0, yu, y1⟩ := HZ.out W6 hg
  have hne : W.heap.size ≠ eb := by omega
  have i6 : IsC (W6.setCell ⟨eb, 0, none⟩ (.slice p6 (E.length + 1) c6)) W.heap.size ⟨2, a, b, lo, hi'⟩ := (e6.blk W.heap.size (by rw [alloc_sz, alloc_sz, alloc_sz]; omega) hne hne (fun h => by have := (DW.out.row.lt _ h.symm).2; omega)).trans ((((Below.refl _ ((W.alloc (.cells #[.int .i64 2, .int .i64 a, .int .i64 b, .int .i64 lo, .int .i64 hi'] 59)).alloc (.cells #[.int .i64 2, .int .i64 a, .int .i64 lo, .int .i64 hi'] 62))).alloc (Nat.le_refl _) _).block W.heap.size (by rw [alloc_sz, alloc_sz]; omega)).trans ((((Below.refl _ (W.alloc (.cells #[.int .i64 2, .int .i64 a, .int .i64 b, .int .i64 lo, .int .i64 hi'] 59))).alloc (Nat.le_refl _) _).block W.heap.size (by rw [alloc_sz]; omega)).trans HIA.out))
  have x0 := i6.c0
  have x1 := i6.c1
  have x2 := i6.c2
  have x3 := i6.c3
  have x4 := i6.c4
  dsimp only at x0 x1 x2 x3 x4
  have E6 := Lib.hid ((Ext.of (bl := eb) (bm := eb) (u := .slice pe E.length ce) BC.out).trans e6)
  have D6 := Lib.hid d6
  clear hown hg hat e1 hown2 hat2 d6 e6 i6 HZ DC BC HIA f0 f1 f2 f3 f4 t1 k0
  go_wp2_with (fail)
  refine (KO.out _).mono ?_
  rintro e w8 ⟨⟨po, co, rfl, hpo, hpl⟩, hB8⟩
  have HD := Lib.hid (D6.out.grow hB8)
  have HE := Lib.hid (E6.out.trans (Ext.of hB8))
  have hpl2 : ∀ x : Addr, po = some x → x.block < w8.heap.size ∧ x.block ≠ eb ∧ some x.block ≠ (Value.slice p6 (E.length + 1) c6).ownBlock := fun x hx => by
    have h := hpl x hx
    have h1 := D6.out.sz
    refine ⟨h.2, by omega, fun e => ?_⟩
    have := (D6.out.row.lt _ e.symm).2
    omega
  have HP := Lib.hid hpo
  have HPL := Lib.hid hpl2
  clear hpo hpl hpl2 hB8 D6 E6 KO x0 x1 x2 x3 x4 y0 y1
  go_wp2_with (fail)
  go_loopw [32] (fun i wr => ∃ (r : Nat) (v1 : Value), i = .int .i64 r ∧ r ≤ ops.length ∧ Hid (DcI w0 B tb eb fb #[n, .slice (some ⟨bb, o, none⟩) L.length cl, vo] v1 ((E ++ [(⟨2, a, lo, hi'⟩ : Nd)]) ++ (ops.take r).flatMap (decL L f)) wr) ∧ Hid (Ext eb eb (.slice pe E.length ce) v1 W wr) ∧ Hid (Px wr (.slice po ops.length co) ops) ∧ Hid (∀ x : Addr, po = some x → x.block < wr.heap.size ∧ x.block ≠ eb ∧ some x.block ≠ v1.ownBlock)) (fun i _ => ops.length - (intOf i).toNat)
  case atStart => exact ⟨0, _, rfl, Nat.zero_le _, Lib.hid (by simpa using HD.out), HE, HP, HPL⟩
  case round =>
    clear HD HE HP HPL
    obtain ⟨r, v1, rfl, hr, HD, HE, HP, HPL⟩ := hrel
    by_cases hlr : r < ops.length
    · have i3 : (r : Int) < ops.length := by omega
      obtain ⟨y, hy⟩ : ∃ y, ops[r]? = some y := ⟨_, List.getElem?_eq_getElem hlr⟩
      have hym := List.mem_of_getElem? hy
      obtain ⟨j, rfl⟩ : ∃ j : Nat, y = j := ⟨y.toNat, by have := hyn y hym; omega⟩
      obtain ⟨b2, o2, rfl, hb2, rd2⟩ := px_rd HP.out hy
      have r0 := rd2 ⟨wr, Below.refl _ _⟩
      dsimp only at r0
      have hfl := flat_snoc (decL L f) hy
      have hfe := flat_le ops (r + 1) (decL L f)
      rw [hfl, List.length_append] at hfe
      have hlen3 : ((E ++ [(⟨2, a, lo, hi'⟩ : Nd)]) ++ (ops.take r).flatMap (decL L f)).length + (decL L f j).length ≤ 1000 := by
        have := HT.out
        simp only [List.length_append, List.length_singleton]
        omega
      have KI := Lib.hid (HIH.out _ hym j rfl v1 _ wr HD.out hlen3)
      have k0 := HD.out.bf.cell
      have HFL := Lib.hid hfl
      clear rd2 hy hfl hfe hlen3 hym
      go_wp2_with (fail)
      refine KI.out.mono ?_
      rintro e w9 ⟨v9, rfl, d9, e9⟩
      have HD9 := Lib.hid d9
      have HE9 := Lib.hid (HE.out.trans e9)
      have HP9 := Lib.hid (px_ext HP.out HPL.out e9)
      have hpl9 : ∀ x : Addr, some ⟨b2, o2, none⟩ = some x → x.block < w9.heap.size ∧ x.block ≠ eb ∧ some x.block ≠ v9.ownBlock := fun x hx => by
        obtain ⟨g1, g2, g3⟩ := HPL.out x hx
        refine ⟨Nat.lt_of_lt_of_le g1 e9.size, g2, fun e => ?_⟩
        rcases e9.own _ e.symm with h | h
        · exact g3 h.symm
        · omega
      have HPL9 := Lib.hid hpl9
      clear d9 e9 hpl9 KI k0 r0
      go_wp2_with (fail)
      go_roundw
      case rel => exact ⟨r + 1, v9, by go_num, by omega, Lib.hid (by rw [HFL.out, ← List.append_assoc]; exact HD9.out), HE9, HP9, HPL9⟩
      case measure => simp [intOf]; omega
    · obtain rfl : r = ops.length := by omega
      have i3 : ¬ (ops.length : Int) < ops.length := by omega
      have h := HD.out
      rw [List.take_length, List.append_assoc] at h
      have HH := Lib.hid h
      clear h
      go_wp2_with (fail)
      exact bodyPost_end (v := .tuple #[]) (by simp [results, Try.results49, go_sem]) rfl ⟨rfl, v1, HH.out, HE.out⟩
/-- The closure of Decompile, at every instruction. -/
theorem dec_ok (w0 : World) (B tb eb fb : Nat) (n vo : Value) (pl : Option Addr) (cl : Nat) (L : List Is) (N : Int) (hl : Ix w0 (.slice pl L.length cl) L) (h400 : L.length ≤ 400) (hvin : ∀ (k : Nat) (x : Is), L[k]? = some x → vinB k N x = true) : ∀ f i : Nat, i < f → i < L.length → ∀ (v : Value) (E : List Nd) (W : World), DcI w0 B tb eb fb #[n, .slice pl L.length cl, vo] v E W → E.length + (decL L f i).length ≤ 1000 → Calls Try.prog 49 #[.int .i64 i, .pointer (some ⟨tb, 0, none⟩), .pointer (some ⟨eb, 0, none⟩), .pointer (some ⟨fb, 0, none⟩)] W fun e w' => ∃ v', e = .returned (.tuple #[]) ∧ DcI w0 B tb eb fb #[n, .slice pl L.length cl, vo] v' (E ++ decL L f i) w' ∧ Ext eb eb v v' W w' := by
  intro f
  induction f with
  | zero => intro i h; omega
  | succ f ih =>
    intro i hi hL
    obtain ⟨⟨op, a, b, lo, hi'⟩, hx⟩ : ∃ x, L[i]? = some x := ⟨_, List.getElem?_eq_getElem hL⟩
    have ho := ops_lt (hvin i _ hx)
    have IH : ∀ y ∈ opsI ⟨op, a, b, lo, hi'⟩, ∀ j : Nat, y = j → ∀ (v : Value) (E : List Nd) (W : World), DcI w0 B tb eb fb #[n, .slice pl L.length cl, vo] v E W → E.length + (decL L f j).length ≤ 1000 → Calls Try.prog 49 #[.int .i64 j, .pointer (some ⟨tb, 0, none⟩), .pointer (some ⟨eb, 0, none⟩), .pointer (some ⟨fb, 0, none⟩)] W fun e w' => ∃ v', e = .returned (.tuple #[]) ∧ DcI w0 B tb eb fb #[n, .slice pl L.length cl, vo] v' (E ++ decL L f j) w' ∧ Ext eb eb v v' W w' := fun y hy j e => ih j (by have := (ho y hy).2; omega) (by have := (ho y hy).2; omega)
    by_cases hop : op = 2
    · subst hop
      exact dec_step2 w0 B tb eb fb n vo pl cl L hl h400 f i a b lo hi' hx (fun y hy => (ho y hy).1) IH
    · exact dec_step w0 B tb eb fb n vo pl cl L hl h400 f i op a b lo hi' hx hop (fun y hy => (ho y hy).1) IH
end Go.Proofs.Ytajddejeglhbhaa

namespace Go.Proofs.Ytajddejeglhbhaa
open Go.ChangeShapes Go.WideShapes Go.ChangeAt Go.RowKit Go.Maps
set_option linter.unusedVariables false
set_option linter.unusedSimpArgs false
set_option maxRecDepth 100000
attribute [local irreducible] Calls
/-- A number of nodes, or 201. -/
def cap (n : Int) : Int := if 201 < n then 201 else n
theorem cap_sum (sz : List Int) (g : Int → List Nd) : ∀ ys : List Int, (∀ y ∈ ys, sz.getD y.toNat 0 = cap (g y).length) → (smI sz ys = (ys.flatMap g).length ∧ smI sz ys ≤ 402 * ys.length) ∨ (201 ≤ smI sz ys ∧ 201 ≤ ((ys.flatMap g).length : Int))
  | [], _ => .inl (by simp [smI])
  | y :: ys, h => by
    have hy := h y (by simp)
    have ih := cap_sum sz g ys (fun z hz => h z (by simp [hz]))
    have e1 : smI sz (y :: ys) = sz.getD y.toNat 0 + smI sz ys := by simp [smI]
    have e2 : (((y :: ys).flatMap g).length : Int) = (g y).length + (ys.flatMap g).length := by simp
    have hn : 0 ≤ smI sz ys := by
      rcases ih with h | h
      · omega
      · omega
    rw [e1, e2, hy, List.length_cons]
    unfold cap
    push_cast
    split <;> rcases ih with h | h <;> omega
theorem size_at {L : List Is} {N : Int} (hvin : ∀ (k : Nat) (x : Is), L[k]? = some x → vinB k N x = true) : ∀ f i : Nat, i < f → i < L.length → (szL L).getD i 0 = cap (decL L f i).length := by
  have pre : ∀ (m i : Nat), i < m → m ≤ L.length → (szL (L.take m)).getD i 0 = (szL (L.take (i + 1))).getD i 0 := by
    intro m
    induction m with
    | zero => intro i h; omega
    | succ m ih =>
      intro i hi hm
      obtain ⟨x, hx⟩ : ∃ x, L[m]? = some x := ⟨_, List.getElem?_eq_getElem (by omega)⟩
      by_cases e : i = m
      · rw [e]
      · rw [szL_snoc hx, ← ih i (by omega) (by omega), List.getD_eq_getElem?_getD, List.getD_eq_getElem?_getD, List.getElem?_append_left (by rw [szL_len, List.length_take]; omega)]
  intro f
  induction f with
  | zero => intro i h; omega
  | succ f ih =>
    intro i hi hL
    obtain ⟨x, hx⟩ : ∃ x, L[i]? = some x := ⟨_, List.getElem?_eq_getElem hL⟩
    have h1 := pre L.length i hL (Nat.le_refl _)
    rw [List.take_length] at h1
    rw [h1, szL_snoc hx, decL_at hx, List.getD_eq_getElem?_getD, List.getElem?_append_right (by rw [szL_len, List.length_take]; omega), szL_len, List.length_take, Nat.min_eq_left (by omega), Nat.sub_self]
    show szI (szL (L.take i)) x = _
    have ho := ops_lt (hvin i x hx)
    have hc := cap_sum (szL (L.take i)) (decL L f) (opsI x) (fun y hy => by
      have hb := ho y hy
      obtain ⟨j, rfl⟩ : ∃ j : Nat, y = j := ⟨y.toNat, by omega⟩
      rw [Int.toNat_natCast, pre i j (by omega) (by omega), ← pre L.length j (by omega) (Nat.le_refl _), List.take_length]
      exact ih j (by omega) (by omega))
    unfold szI cap
    rw [List.length_cons]
    push_cast
    rcases hc with h | h
    · rw [h.1, Int.add_comm]
    · rw [if_pos (by omega), if_pos (by omega)]
/-- The row of an output. -/
def rowD (L : List Is) (y : Int) : List Nd := if (decL L L.length y).length ≤ 200 then decL L L.length y else []
/-- All but the variable of the expression stays. -/
structure Oth (eb : Nat) (W W' : World) : Prop where
  os : W'.os = W.os
  tape : W'.tape = W.tape
  output : W'.output = W.output
  size : W.heap.size ≤ W'.heap.size
  blk : ∀ k, k < W.heap.size → k ≠ eb → W'.heap[k]? = W.heap[k]?
section
variable {eb B : Nat} {W W' W'' : World}
theorem Oth.set (eb : Nat) (W : World) (v : Value) : Oth eb W (W.setCell ⟨eb, 0, none⟩ v) :=
  have h := grownBy_setN W ⟨eb, 0, none⟩ v
  ⟨h.os, h.tape, h.output, h.size, fun k hk hn => h.block k hk (fun e => hn (Option.some.inj e))⟩
theorem Oth.ext {n c : Nat} {v : Value} (h : Ext eb eb (.slice none n c) v W W') : Oth eb W W' := ⟨h.os, h.tape, h.output, h.size, fun k hk hn => h.blk k hk hn hn (by simp [Value.ownBlock])⟩
theorem Oth.trans (h : Oth eb W W') (k : Oth eb W' W'') : Oth eb W W'' := ⟨k.os.trans h.os, k.tape.trans h.tape, k.output.trans h.output, Nat.le_trans h.size k.size, fun j hj hn => (k.blk j (Nat.lt_of_lt_of_le hj h.size) hn).trans (h.blk j hj hn)⟩
theorem Oth.below (h : Oth eb W W') {b : Nat} (hb : b ≤ eb) (hw : b ≤ W.heap.size) : Below b W W' := ⟨h.os, h.tape, h.output, h.size, fun k hk => h.blk k (by omega) (by omega)⟩
theorem row_oth {n sz : Nat} {v : Value} {t : TypeId} {xs : List Value} (hr : W.ownsRow B t sz v n xs) (h : Oth eb W W') (hb : eb < B) : W'.ownsRow B t sz v n xs := by
  refine ⟨hr.1, hr.2.imp id ?_⟩
  rintro ⟨g, cap, cur, e, hg, hh, rest⟩
  exact ⟨g, cap, cur, e, hg, (h.blk g (Array.getElem?_eq_some_iff.1 hh).1 (by omega)).trans hh, rest⟩
theorem nxo_oth {v x : Value} {l : List Nd} (hv : NxO W v l) (hx : Boxed W eb 54 x) (h : Oth eb W W') : NxO W' v l := by
  obtain ⟨⟨⟨h1, p, c, rfl, h2⟩, h3⟩, h4⟩ := hv
  have hb : ∀ a : Addr, p = some a → W'.heap[a.block]? = W.heap[a.block]? ∧ a.block < W.heap.size := fun a e => by
    obtain ⟨cur, hc⟩ := h4 a _ _ (by rw [e])
    have hlt := (Array.getElem?_eq_some_iff.1 hc).1
    refine ⟨h.blk _ hlt (fun e2 => ?_), hlt⟩
    unfold Boxed at hx
    rw [e2, hx] at hc
    simp only [Option.some.injEq, Obj.cells.injEq] at hc
    exact absurd hc.2.1 (by decide)
  refine ⟨⟨⟨h1, p, c, rfl, fun i x hx => ?_⟩, h3⟩, fun a n c' e => ?_⟩
  · obtain ⟨b, o, e, h5, h6⟩ := h2 i x hx
    have hbb := hb _ e
    exact ⟨b, o, e, Nat.lt_of_lt_of_le h5 h.size, fun j v hv => (World.cell?_of_block (a := ⟨b, o + i * 4 + j, none⟩) hbb.1).trans (h6 j v hv)⟩
  · obtain ⟨cur, hc⟩ := h4 a n c' e
    simp only [Value.slice.injEq] at e
    exact ⟨cur, (hb a e.1).1.trans hc⟩
theorem ownl_oth {v x : Value} {l : List (List Nd)} {us : List Value} (hv : OwnL B W v l us) (hx : Boxed W eb 54 x) (h : Oth eb W W') (hb : eb < B) : OwnL B W' v l us :=
  ⟨row_oth hv.row h hb, fun k u y h1 h2 => nxo_oth (hv.el k u y h1 h2) hx h⟩
theorem ownl_push {r r' v : Value} {l : List (List Nd)} {x : List Nd} {us : List Value} (ho : OwnL B W r l us) (hn : NxO W v x) (hr : W'.ownsRow B 54 1 r' (l.length + 1) (us ++ [v])) (hg : W.grownBy W' r.ownBlock) : OwnL B W' r' (l ++ [x]) (us ++ [v]) := by
  refine ⟨by rw [List.length_append]; exact hr, fun i u y h1 h2 => ?_⟩
  refine nxo_push ?_ ho.row hg
  have hul := ho.row.1
  by_cases hi : i < l.length
  · rw [List.getElem?_append_left (by omega)] at h1
    rw [List.getElem?_append_left hi] at h2
    exact ho.el i u y h1 h2
  · have hi2 := (List.getElem?_eq_some_iff.1 h2).1
    simp only [List.length_append, List.length_singleton] at hi2
    obtain rfl : i = l.length := by omega
    rw [List.getElem?_append_right (by omega)] at h1 h2
    rw [show l.length - us.length = 0 by omega] at h1
    rw [Nat.sub_self] at h2
    simp only [List.getElem?_cons_zero, Option.some.injEq] at h1 h2
    subst h1 h2
    exact hn
end
end Go.Proofs.Ytajddejeglhbhaa

namespace Go.Proofs.Ytajddejeglhbhaa
open Go.ChangeShapes Go.WideShapes Go.ChangeAt Go.RowKit Go.Maps
set_option linter.unusedVariables false
set_option linter.unusedSimpArgs false
set_option maxRecDepth 100000
attribute [local irreducible] Calls
theorem row_app {B B' n n' sz sz' : Nat} {W W' : World} {v r : Value} {t t' : TypeId} {xs ys : List Value} (ht : t' ≠ t) (hr : W.ownsRow B t sz v n xs) (ho : W.ownsRow B' t' sz' r n' ys) (hg : W.grownBy W' r.ownBlock) : W'.ownsRow B t sz v n xs := by
  refine ⟨hr.1, hr.2.imp id ?_⟩
  rintro ⟨g, cap, cur, e, hgb, hh, rest⟩
  refine ⟨g, cap, cur, e, hgb, (hg.block g (Array.getElem?_eq_some_iff.1 hh).1 (fun e2 => ?_)).trans hh, rest⟩
  rcases id ho.2 with ⟨e1, _⟩ | ⟨g', cap', cur', e1, _, hh', _⟩
  · rw [e1] at e2; simp [Value.ownBlock] at e2
  · rw [e1] at e2
    simp only [Value.ownBlock, Option.some.injEq] at e2
    rw [e2, hh'] at hh
    simp only [Option.some.injEq, Obj.cells.injEq] at hh
    exact ht hh.2.1
set_option maxHeartbeats 16000000 in
theorem decompile_ok (n : Int) (vl vo : Value) (L : List Is) (out : List Int) (w : World) (hl : Ix w vl L) (ho : Px w vo out) (htv : tvB n L out = true) :
    Calls Try.prog 24 #[.agg #[.int .i64 n, vl, vo]] w fun e w' => ∃ u, e = .returned u ∧ (∃ us, OwnL w.heap.size w' u (out.map (rowD L)) us) ∧ Below w.heap.size w w' := by
  obtain ⟨i0, hi, hz0, hz1, hz2⟩ := info_parts info_ns
  obtain ⟨pl, cl, rfl⟩ := hl.cut
  obtain ⟨po, co, rfl⟩ := ho.cut
  obtain ⟨n1, n6, n400, nout, hvin, hout⟩ := tv_cases htv
  have hba : Below w.heap.size w (w.alloc (.cells #[.int .i64 n, .slice pl L.length cl, .slice po out.length co] 25)) := (Below.refl _ _).alloc (Nat.le_refl _) _
  have hX : (w.alloc (.cells #[.int .i64 n, .slice pl L.length cl, .slice po out.length co] 25)).heap[w.heap.size]? = some (.cells #[.int .i64 n, .slice pl L.length cl, .slice po out.length co] 25 (0, 0)) := World.alloc_heap_new w _
  have x0 : (w.alloc (.cells #[.int .i64 n, .slice pl L.length cl, .slice po out.length co] 25)).cell? ⟨w.heap.size, 0, none⟩ = _ := heapN_cellj hX (k := 0) rfl
  have x1 : (w.alloc (.cells #[.int .i64 n, .slice pl L.length cl, .slice po out.length co] 25)).cell? ⟨w.heap.size, 1, none⟩ = _ := heapN_cellj hX (k := 1) rfl
  have x2 : (w.alloc (.cells #[.int .i64 n, .slice pl L.length cl, .slice po out.length co] 25)).cell? ⟨w.heap.size, 2, none⟩ = _ := heapN_cellj hX (k := 2) rfl
  have KV := Lib.hid (fun w a b => tvalid_ok n (.slice pl L.length cl) (.slice po out.length co) L out w a b)
  rw [htv] at KV
  have KS := Lib.hid (fun w a => sizes_ok (.slice pl L.length cl) L n w a n400 hvin)
  have SA := Lib.hid (fun f i a b => size_at hvin f i a b)
  have DK := Lib.hid (fun B tb eb fb => dec_ok w B tb eb fb (.int .i64 n) (.slice po out.length co) pl cl L n hl n400 hvin L.length)
  have HL := Lib.hid hl
  have HO := Lib.hid ho
  have HX := Lib.hid hX
  have HB := Lib.hid hba
  have HOUT := Lib.hid hout
  have hom : out.length ≤ 6 := by omega
  clear hl ho hX hba hvin hout htv nout
  go_enter Try.func24, Try.ntmps24
  go_wp2_with (fail)
  refine (KV.out _ (HL.out.grow HB.out) (HO.out.grow HB.out)).mono ?_
  rintro e w1 ⟨rfl, hB1⟩
  have hb1 := below_then HB.out hB1
  have X1 := Lib.hid ((hB1.block _ (Array.getElem?_eq_some_iff.1 HX.out).1).trans HX.out)
  have hs1 := (Array.getElem?_eq_some_iff.1 X1.out).1
  have bA : Below w1.heap.size w1 (w1.alloc (.cells #[.slice none 0 0] 54)) := (Below.refl _ _).alloc (Nat.le_refl _) _
  have bB : Below w1.heap.size w1 ((w1.alloc (.cells #[.slice none 0 0] 54)).alloc (.cells #[.func (.func 49) #[] #[.pointer (some ⟨w.heap.size, 0, none⟩), .pointer (some ⟨w1.heap.size, 0, none⟩), .pointer (some ⟨w1.heap.size + 1, 0, none⟩)]] 85)) := bA.alloc bA.size _
  have bB2 : Below w.heap.size w ((w1.alloc (.cells #[.slice none 0 0] 54)).alloc (.cells #[.func (.func 49) #[] #[.pointer (some ⟨w.heap.size, 0, none⟩), .pointer (some ⟨w1.heap.size, 0, none⟩), .pointer (some ⟨w1.heap.size + 1, 0, none⟩)]] 85)) := hb1.trans (bB.mono hb1.size)
  have XB := Lib.hid ((bB.block _ hs1).trans X1.out)
  have EBX : Hid (Boxed ((w1.alloc (.cells #[.slice none 0 0] 54)).alloc (.cells #[.func (.func 49) #[] #[.pointer (some ⟨w.heap.size, 0, none⟩), .pointer (some ⟨w1.heap.size, 0, none⟩), .pointer (some ⟨w1.heap.size + 1, 0, none⟩)]] 85)) w1.heap.size 54 (.slice none 0 0)) := Lib.hid ((((Below.refl _ (w1.alloc (.cells #[.slice none 0 0] 54))).alloc (Nat.le_refl _) _).block _ (by rw [alloc_sz]; omega)).trans (World.alloc_heap_new w1 _))
  have FBX : Hid (Boxed ((w1.alloc (.cells #[.slice none 0 0] 54)).alloc (.cells #[.func (.func 49) #[] #[.pointer (some ⟨w.heap.size, 0, none⟩), .pointer (some ⟨w1.heap.size, 0, none⟩), .pointer (some ⟨w1.heap.size + 1, 0, none⟩)]] 85)) (w1.heap.size + 1) 85 (.func (.func 49) #[] #[.pointer (some ⟨w.heap.size, 0, none⟩), .pointer (some ⟨w1.heap.size, 0, none⟩), .pointer (some ⟨w1.heap.size + 1, 0, none⟩)])) := Lib.hid (by
    have := World.alloc_heap_new (w1.alloc (.cells #[.slice none 0 0] 54)) (.cells #[.func (.func 49) #[] #[.pointer (some ⟨w.heap.size, 0, none⟩), .pointer (some ⟨w1.heap.size, 0, none⟩), .pointer (some ⟨w1.heap.size + 1, 0, none⟩)]] 85)
    rwa [alloc_sz] at this)
  have hszB : ((w1.alloc (.cells #[.slice none 0 0] 54)).alloc (.cells #[.func (.func 49) #[] #[.pointer (some ⟨w.heap.size, 0, none⟩), .pointer (some ⟨w1.heap.size, 0, none⟩), .pointer (some ⟨w1.heap.size + 1, 0, none⟩)]] 85)).heap.size = (w1.heap.size + 2) := by rw [alloc_sz, alloc_sz]
  have KSB := Lib.hid (KS.out ((w1.alloc (.cells #[.slice none 0 0] 54)).alloc (.cells #[.func (.func 49) #[] #[.pointer (some ⟨w.heap.size, 0, none⟩), .pointer (some ⟨w1.heap.size, 0, none⟩), .pointer (some ⟨w1.heap.size + 1, 0, none⟩)]] 85)) (HL.out.grow bB2))
  rw [hszB] at KSB
  have BB2 := Lib.hid bB2
  have HSB := Lib.hid hszB
  have z1 := heapN_cellj XB.out (k := 1) (u := .slice pl L.length cl) rfl
  clear hB1 hb1 bA bB bB2 hszB KV KS X1 x0 x1 x2 HX HB
  go_wp2_with (fail)
  refine KSB.out.mono ?_
  rintro e w4 ⟨gz, cz, rfl, hrz, hB4⟩
  have hB4' : Below ((w1.alloc (.cells #[.slice none 0 0] 54)).alloc (.cells #[.func (.func 49) #[] #[.pointer (some ⟨w.heap.size, 0, none⟩), .pointer (some ⟨w1.heap.size, 0, none⟩), .pointer (some ⟨w1.heap.size + 1, 0, none⟩)]] 85)).heap.size ((w1.alloc (.cells #[.slice none 0 0] 54)).alloc (.cells #[.func (.func 49) #[] #[.pointer (some ⟨w.heap.size, 0, none⟩), .pointer (some ⟨w1.heap.size, 0, none⟩), .pointer (some ⟨w1.heap.size + 1, 0, none⟩)]] 85)) w4 := by rw [HSB.out]; exact hB4
  have X4 := Lib.hid ((hB4.block w.heap.size (by omega)).trans XB.out)
  have E4 := Lib.hid ((hB4.block w1.heap.size (by omega)).trans EBX.out)
  have F4 := Lib.hid ((hB4.block (w1.heap.size + 1) (by omega)).trans FBX.out)
  have B4 := Lib.hid (BB2.out.trans (hB4.mono (by omega)))
  have hs4 : (w1.heap.size + 2) ≤ w4.heap.size := by have := hB4'.size; rw [HSB.out] at this; exact this
  have R4 := Lib.hid hrz
  have z2 := heapN_cellj X4.out (k := 2) (u := .slice po out.length co) rfl
  clear hrz hB4 hB4' KSB XB EBX FBX BB2 z1 HSB
  go_wp2_with (fail)
  go_loopw [5, 19] (fun r i wr => ∃ (j : Nat) (us : List Value) (x : Value), i = .int .i64 j ∧ j ≤ out.length ∧ Hid (OwnL (w1.heap.size + 2) wr r ((out.take j).map (rowD L)) us) ∧ Hid (wr.ownsRow (w1.heap.size + 2) 3 1 (.slice (some ⟨gz, 0, none⟩) L.length cz) L.length (cr enc1 (szL L))) ∧ Hid (wr.heap[w.heap.size]? = some (.cells #[.int .i64 n, .slice pl L.length cl, .slice po out.length co] 25 (0, 0))) ∧ Hid (Boxed wr w1.heap.size 54 x) ∧ Hid (Boxed wr (w1.heap.size + 1) 85 (.func (.func 49) #[] #[.pointer (some ⟨w.heap.size, 0, none⟩), .pointer (some ⟨w1.heap.size, 0, none⟩), .pointer (some ⟨w1.heap.size + 1, 0, none⟩)])) ∧ Below w.heap.size w wr ∧ (w1.heap.size + 2) ≤ wr.heap.size) (fun r i _ => out.length - (intOf i).toNat)
  case atStart => exact ⟨0, [], .slice none 0 0, rfl, Nat.zero_le _, Lib.hid ⟨World.ownsRow_nil _ _ _ _, fun k u x h => by simp at h⟩, R4, X4, E4, F4, B4.out, hs4⟩
  case round =>
    clear R4 X4 E4 F4 B4 z2 hs4
    obtain ⟨j, us, x, rfl, hj, HOW, HSZ, HTP, HBE, HBF, hB, hsr⟩ := hrel
    have HBr := Lib.hid hB
    obtain ⟨pr, crr, rfl⟩ := own_slice HOW.out.row
    simp only [List.length_map, List.length_take, Nat.min_eq_left hj] at *
    by_cases hlt : j < out.length
    · have i2 : (j : Int) < out.length := by omega
      obtain ⟨y, hy⟩ : ∃ y, out[j]? = some y := ⟨_, List.getElem?_eq_getElem hlt⟩
      have hyb := HOUT.out y (List.mem_of_getElem? hy)
      obtain ⟨m, rfl⟩ : ∃ m : Nat, y = m := ⟨y.toNat, by omega⟩
      have hmL : m < L.length := by omega
      have i3 : (m : Int) < L.length := by omega
      obtain ⟨bo, oo, rfl, hbo, rdo⟩ := px_rd HO.out hy
      have r0 := rdo ⟨wr, hB⟩
      dsimp only at r0
      have hsa := SA.out L.length m hmL hmL
      have oth := Oth.set w1.heap.size wr (.slice none 0 0)
      have hrz2 := row_oth HSZ.out oth (by omega)
      have hzl : (szL L).length = L.length := szL_len L
      have c0 := hrz2.cellAt m (by omega)
      rw [cr1_map, List.getElem?_map, List.getElem?_eq_getElem (by omega)] at c0
      have hge : (szL L).getD m 0 = (szL L)[m] := by rw [List.getD_eq_getElem?_getD, List.getElem?_eq_getElem (by omega)]; rfl
      rw [← hge, hsa] at c0
      simp only [Option.map_some] at c0
      have s0 := HBE.out.cell
      have s1 : wr.frozen? ⟨w1.heap.size, 0, none⟩ = false := by have h := HBE.out; unfold Boxed at h; simp [World.frozen?, h]
      obtain ⟨D, hD⟩ : ∃ D, decL L L.length m = D := ⟨_, rfl⟩
      have hrow : (out.take (j + 1)).map (rowD L) = (out.take j).map (rowD L) ++ [if D.length ≤ 200 then D else []] := by
        rw [List.take_add_one, hy]
        simp [rowD, hD]
      rw [hD] at c0
      have HROW := Lib.hid hrow
      have OW1 := Lib.hid (ownl_oth HOW.out HBE.out oth (by omega))
      have TP1 := Lib.hid ((oth.blk w.heap.size (by have := (Array.getElem?_eq_some_iff.1 HTP.out).1; exact this) (by omega)).trans HTP.out)
      have BF1 := Lib.hid ((oth.blk (w1.heap.size + 1) (by omega) (by omega)).trans HBF.out)
      have BE1 := Lib.hid (cellsT_setN (o := 0) (u := .slice none 0 0) HBE.out)
      have BL1 := Lib.hid (hB.setCell (p := ⟨w1.heap.size, 0, none⟩) (show w.heap.size ≤ w1.heap.size by omega) (.slice none 0 0))
      have hsz1 := oth.size
      have SZ1 := Lib.hid hrz2
      have HDD := Lib.hid hD
      clear hrow hsa oth hrz2 hge hy rdo HOW HSZ HTP HBE HBF hB hzl hD
      have hlj : ((out.take j).map (rowD L)).length = j := by rw [List.length_map, List.length_take]; omega
      by_cases hsm : D.length ≤ 200
      · have i5 : (D.length : Int) ≤ 200 := by omega
        rw [show cap (D.length : Int) = D.length by unfold cap; rw [if_neg (by omega)]] at c0
        have KD := Lib.hid (DK.out (wr.setCell ⟨w1.heap.size, 0, none⟩ (.slice none 0 0)).heap.size w.heap.size w1.heap.size (w1.heap.size + 1) m hmL hmL (.slice none 0 0) [] (wr.setCell ⟨w1.heap.size, 0, none⟩ (.slice none 0 0)) ⟨⟨by omega, by omega, by omega, by omega, by omega, by omega⟩, BL1.out, Nat.le_refl _, TP1.out, BE1.out, BF1.out, World.ownsRow_nil _ _ _ _⟩ (by rw [HDD.out]; simp; omega))
        rw [HDD.out, List.nil_append] at KD
        have k0 : (wr.setCell ⟨w1.heap.size, 0, none⟩ (.slice none 0 0)).cell? ⟨(w1.heap.size + 1), 0, none⟩ = some (.func (.func 49) #[] #[.pointer (some ⟨w.heap.size, 0, none⟩), .pointer (some ⟨w1.heap.size, 0, none⟩), .pointer (some ⟨w1.heap.size + 1, 0, none⟩)]) := Boxed.cell BF1.out
        have hs1' := hsz1
        clear hsz1
        go_wp2_with (fail)
        refine KD.out.mono ?_
        rintro e w9 ⟨v9, rfl, d9, e9⟩
        obtain ⟨p9, c9, rfl⟩ := own_slice d9.row
        have oth := Oth.ext e9
        have hs9 := oth.size
        have OW9 := Lib.hid (ownl_oth OW1.out BE1.out oth (by omega))
        have SZ9 := Lib.hid (row_oth SZ1.out oth (by omega))
        have TP9 := Lib.hid d9.tp
        have BE9 := Lib.hid d9.be
        have BF9 := Lib.hid d9.bf
        have BL9 := Lib.hid d9.bel
        have NX9 := Lib.hid (nxo_own d9.row (by unfold maxLen; omega))
        have k1 := d9.be.cell
        clear d9 e9 oth KD k0 OW1 SZ1 TP1 BF1 BE1 BL1 c0 r0 s0 s1
        have bal : Below w9.heap.size w9 (w9.alloc (.cells #[.slice p9 D.length c9] 54)) := (Below.refl _ _).alloc (Nat.le_refl _) _
        have OWa := Lib.hid (OW9.out.kept bal)
        have NXa := Lib.hid (NX9.out.grow bal)
        have hra := OWa.out.row
        rw [hlj] at hra
        have HRA := Lib.hid hra
        have SZa := Lib.hid (own_keptN SZ9.out bal)
        have TPa := Lib.hid ((bal.block w.heap.size (by omega)).trans TP9.out)
        have BEa := Lib.hid ((bal.block w1.heap.size (by omega)).trans BE9.out)
        have BFa := Lib.hid ((bal.block (w1.heap.size + 1) (by omega)).trans BF9.out)
        have BLa := Lib.hid (BL9.out.alloc BL9.out.size (.cells #[.slice p9 D.length c9] 54))
        have hs0 := BL9.out.size
        clear bal hra OW9 NX9 SZ9 TP9 BE9 BF9 BL9
        go_wp2_with (at_builtin; refine wpList_append_own _ rfl (.tmp 31) (.tmp 33) 36 rfl (w1.heap.size + 2) 54 i0 (.slice none 0 0) 1 24 Try.underlying36 hi hz0 hz1 hz2 rfl (by decide) (.slice pr j crr) j _ rfl HRA.out ⟨w9.heap.size, 0, none⟩ 1 1 [.slice p9 D.length c9] rfl rfl (one_newN w9 (.slice p9 D.length c9) 54) (fun u hu => by simp only [List.mem_singleton] at hu; subst hu; rfl) (by unfold maxLen; omega) (by omega) (by rw [alloc_sz]; omega) ?_)
        intro v' w8 hown hgrow _
        have hk8 : ∀ k, k < (w1.heap.size + 2) → w8.heap[k]? = (w9.alloc (.cells #[.slice p9 D.length c9] 54)).heap[k]? := fun k hk => hgrow.block k (by rw [alloc_sz]; omega) (fun e => by have := (HRA.out.lt k e.symm).1; omega)
        have SZ8 := Lib.hid (row_app (by decide) SZa.out HRA.out hgrow)
        have OW8 := Lib.hid (ownl_push OWa.out NXa.out (by rw [hlj]; exact hown) hgrow)
        have TP8 := Lib.hid ((hk8 w.heap.size (by omega)).trans TPa.out)
        have BE8 := Lib.hid ((hk8 w1.heap.size (by omega)).trans BEa.out)
        have BF8 := Lib.hid ((hk8 (w1.heap.size + 1) (by omega)).trans BFa.out)
        have BL8 := Lib.hid (Below.grown BLa.out hgrow (by rw [alloc_sz]; omega) (fun k hk => by have := (HRA.out.lt k hk).1; omega))
        have hs8 := hgrow.size
        rw [alloc_sz] at hs8
        obtain ⟨p8, c8, rfl⟩ := own_slice hown
        clear hown hgrow hk8 SZa OWa TPa BEa BFa BLa HRA NXa
        go_wp2_with (fail)
        go_roundw
        case rel => exact ⟨j + 1, _, _, by go_num, by omega, Lib.hid (by rw [HROW.out, if_pos hsm]; exact OW8.out), SZ8, TP8, BE8, BF8, BL8.out, by omega⟩
        case measure => simp [intOf]; omega
      · have i5 : ¬ (D.length : Int) ≤ 200 := by omega
        have i6 : ¬ cap (D.length : Int) ≤ 200 := by unfold cap; split <;> omega
        obtain ⟨cp, hcp⟩ : ∃ cp, cap (D.length : Int) = cp := ⟨_, rfl⟩
        rw [hcp] at c0 i6
        have hsw : (wr.setCell ⟨w1.heap.size, 0, none⟩ (.slice none 0 0)).heap.size = wr.heap.size := by
          show (wr.heap.modify _ _).size = _
          exact Array.size_modify
        have OW9 := OW1
        have SZ9 := SZ1
        have TP9 := TP1
        have BE9 : Hid (Boxed (wr.setCell ⟨w1.heap.size, 0, none⟩ (.slice none 0 0)) w1.heap.size 54 (.slice none 0 0)) := Lib.hid BE1.out
        have BF9 := BF1
        have BL9 := BL1
        have NX9 : Hid (NxO (wr.setCell ⟨w1.heap.size, 0, none⟩ (.slice none 0 0)) (.slice none 0 0) []) := Lib.hid (nxo_own (B := 0) (l := []) (World.ownsRow_nil _ _ _ _) (by simp [maxLen]))
        have k1 := BE9.out.cell
        have hs1' := hsz1
        clear hcp OW1 SZ1 TP1 BF1 BE1 BL1 hsz1
        have bal : Below (wr.setCell ⟨w1.heap.size, 0, none⟩ (.slice none 0 0)).heap.size (wr.setCell ⟨w1.heap.size, 0, none⟩ (.slice none 0 0)) ((wr.setCell ⟨w1.heap.size, 0, none⟩ (.slice none 0 0)).alloc (.cells #[.slice none 0 0] 54)) := (Below.refl _ _).alloc (Nat.le_refl _) _
        have OWa := Lib.hid (OW9.out.kept bal)
        have NXa := Lib.hid (NX9.out.grow bal)
        have hra := OWa.out.row
        rw [hlj] at hra
        have HRA := Lib.hid hra
        have SZa := Lib.hid (own_keptN SZ9.out bal)
        have TPa := Lib.hid ((bal.block w.heap.size (by omega)).trans TP9.out)
        have BEa := Lib.hid ((bal.block w1.heap.size (by omega)).trans BE9.out)
        have BFa := Lib.hid ((bal.block (w1.heap.size + 1) (by omega)).trans BF9.out)
        have BLa := Lib.hid (BL9.out.alloc BL9.out.size (.cells #[.slice none 0 0] 54))
        have hs0 := BL9.out.size
        clear bal hra OW9 NX9 SZ9 TP9 BE9 BF9 BL9
        go_wp2_with (at_builtin; refine wpList_append_own _ rfl (.tmp 31) (.tmp 33) 36 rfl (w1.heap.size + 2) 54 i0 (.slice none 0 0) 1 24 Try.underlying36 hi hz0 hz1 hz2 rfl (by decide) (.slice pr j crr) j _ rfl HRA.out ⟨wr.heap.size, 0, none⟩ 1 1 [.slice none 0 0] rfl rfl (by have h := one_newN (wr.setCell ⟨w1.heap.size, 0, none⟩ (.slice none 0 0)) (.slice none 0 0) 54; rw [hsw] at h; exact h) (fun u hu => by simp only [List.mem_singleton] at hu; subst hu; rfl) (by unfold maxLen; omega) (by omega) (by rw [alloc_sz]; omega) ?_)
        intro v' w8 hown hgrow _
        have hk8 : ∀ k, k < (w1.heap.size + 2) → w8.heap[k]? = ((wr.setCell ⟨w1.heap.size, 0, none⟩ (.slice none 0 0)).alloc (.cells #[.slice none 0 0] 54)).heap[k]? := fun k hk => hgrow.block k (by rw [alloc_sz]; omega) (fun e => by have := (HRA.out.lt k e.symm).1; omega)
        have SZ8 := Lib.hid (row_app (by decide) SZa.out HRA.out hgrow)
        have OW8 := Lib.hid (ownl_push OWa.out NXa.out (by rw [hlj]; exact hown) hgrow)
        have TP8 := Lib.hid ((hk8 w.heap.size (by omega)).trans TPa.out)
        have BE8 := Lib.hid ((hk8 w1.heap.size (by omega)).trans BEa.out)
        have BF8 := Lib.hid ((hk8 (w1.heap.size + 1) (by omega)).trans BFa.out)
        have BL8 := Lib.hid (Below.grown BLa.out hgrow (by rw [alloc_sz]; omega) (fun k hk => by have := (HRA.out.lt k hk).1; omega))
        have hs8 := hgrow.size
        rw [alloc_sz] at hs8
        obtain ⟨p8, c8, rfl⟩ := own_slice hown
        clear hown hgrow hk8 SZa OWa TPa BEa BFa BLa HRA NXa
        go_wp2_with (fail)
        go_roundw
        case rel => exact ⟨j + 1, _, _, by go_num, by omega, Lib.hid (by rw [HROW.out, if_neg hsm]; exact OW8.out), SZ8, TP8, BE8, BF8, BL8.out, by omega⟩
        case measure => simp [intOf]; omega
    · obtain rfl : j = out.length := by omega
      have i2 : ¬ (out.length : Int) < out.length := by omega
      go_wp2_with (fail)
      go_ret
      have h := HOW.out
      rw [List.take_length] at h
      exact ⟨_, rfl, ⟨us, own_base h.row (by omega), h.el⟩, HBr.out⟩
end Go.Proofs.Ytajddejeglhbhaa
