/-
  Literals in memory; the contracts of package tape at given answers.
  The sanity of the laws over tapes.
  The argument of the laws over tapes.
-/
import Derived.Test.YtajddejeglhbhaaUA
import Derived.Test.YtajddejeglhbhaaU8
import Derived.WalkKit
import Derived.ProofKit
import Derived.OpenShut
import Derived.Deep.Matrix
namespace Go.Proofs.Ytajddejeglhbhaa
open Go.ChangeShapes Go.WideShapes Go.ChangeAt Go.RowKit Go.Maps
set_option linter.unusedVariables false
set_option linter.unusedSimpArgs false
set_option maxRecDepth 100000
attribute [local irreducible] Calls
theorem allocs_below : ∀ (L : List Obj) (w : World), Below w.heap.size w (L.foldl World.alloc w)
  | [], w => Below.refl _ _
  | o :: L, w => below_then ((Below.refl _ _).alloc (Nat.le_refl _) _) (allocs_below L (w.alloc o))
theorem allocs_at : ∀ (L : List Obj) (w : World) (i : Nat) (o : Obj), L[i]? = some o → (L.foldl World.alloc w).heap[w.heap.size + i]? = some o
  | [], w, i, o, h => by simp at h
  | x :: L, w, 0, o, h => by
    simp at h
    subst h
    have hb := allocs_below L (w.alloc x)
    exact (hb.block w.heap.size (by rw [alloc_sz]; omega)).trans (World.alloc_heap_new w x)
  | x :: L, w, i + 1, o, h => by
    have := allocs_at L (w.alloc x) i o (by simpa using h)
    rw [alloc_sz] at this
    rw [show w.heap.size + (i + 1) = w.heap.size + 1 + i by omega]
    exact this
/-- A block of memory. -/
def Blk (W : World) (b : Nat) (o : Obj) : Prop := W.heap[b]? = some o
theorem Blk.grow {W W' : World} {b : Nat} {o : Obj} (h : Blk W b o) (hB : Below W.heap.size W W') : Blk W' b o := (hB.block b (Array.getElem?_eq_some_iff.1 h).1).trans h
theorem rx_blk {α : Type} {enc : α → List Value} {sz : Nat} (hsz : ∀ x, (enc x).length = sz) {W : World} {b n : Nat} {cs : Array Value} {t : TypeId} {l : List α} (h : Blk W b (.cells cs t (0, 0))) (hc : cs.toList = cr enc l) (hn : l.length = n) (hl : l.length ≤ maxLen) : Rx enc sz W (.slice (some ⟨b, 0, none⟩) n n) l := by
  subst hn
  refine ⟨hl, _, _, rfl, fun i x hx => ⟨b, 0, rfl, (Array.getElem?_eq_some_iff.1 h).1, fun j u hu => ?_⟩⟩
  have hcr := cr_get hsz i x hx j u hu
  rw [← hc, Array.getElem?_toList] at hcr
  rw [Nat.zero_add]
  exact heapN_cell h hcr
theorem lx_blk {W : World} {b n : Nat} {cs : Array Value} {t : TypeId} {rows : List (List Nd)} (h : Blk W b (.cells cs t (0, 0))) (hn : rows.length = n) (hl : rows.length ≤ maxLen) (he : ∀ (k : Nat) (x : List Nd), rows[k]? = some x → ∃ u, cs[k]? = some u ∧ NxO W u x) : Lx NxO W (.slice (some ⟨b, 0, none⟩) n n) rows := by
  subst hn
  refine ⟨hl, _, _, rfl, fun k x hx => ?_⟩
  obtain ⟨u, h1, h2⟩ := he k x hx
  exact ⟨b, 0, u, rfl, (Array.getElem?_eq_some_iff.1 h).1, by rw [Nat.zero_add]; exact heapN_cell h h1, h2⟩
theorem nxo_blk {W : World} {b n : Nat} {cs : Array Value} {l : List Nd} (h : Blk W b (.cells cs 62 (0, 0))) (hc : cs.toList = cr encN l) (hn : l.length = n) (hl : l.length ≤ maxLen) : NxO W (.slice (some ⟨b, 0, none⟩) n n) l := by
  subst hn
  refine ⟨⟨rx_blk encN_len h hc rfl hl, _, _, rfl, Nat.le_refl _, fun e => by cases e⟩, fun a n c e => ?_⟩
  simp only [Value.slice.injEq, Option.some.injEq] at e
  obtain ⟨rfl, _⟩ := e
  exact ⟨cs, h⟩
theorem point_at (x : Int) (w : World) (h1 : mkLo x x = x) (h2 : mkHi x x = x) : Calls Try.prog 31 #[.int .i64 x] w fun e w' => e = .returned (.agg #[.int .i64 x, .int .i64 x]) ∧ Below w.heap.size w w' := by
  have h := r2point x w
  rwa [h1, h2] at h
theorem eval_at (n : Int) (vl vo vx : Value) (t1 t2 : Int) (L : List Is) (out : List Int) (X R : List (Int × Int)) (w : World) (hl : Ix w vl L) (ho : Px w vo out) (hx : Vx w vx X) (hn : (X.length : Int) = n) (htv : tvB n L out = true) (hvx : ∀ p ∈ X, VI p.1 p.2) (hvt : VI t1 t2) (hR : outV (evL X (t1, t2) L) out = R) :
    Calls Try.prog 16 #[.agg #[.int .i64 n, vl, vo], vx, .agg #[.int .i64 t1, .int .i64 t2]] w fun e w' => ∃ u, e = .returned u ∧ Vx w' u R ∧ Below w.heap.size w w' := by
  subst hn hR
  exact eval_ok vl vo vx t1 t2 L out X w hl ho hx htv hvx hvt
theorem px_map {W : World} {B n : Nat} {v : Value} {t : TypeId} {l : List Int} (h : W.ownsRow B t 1 v n (l.map (fun x => Value.int .i64 x))) (hn : l.length = n) (hl : l.length ≤ maxLen) : Px W v l := by
  subst hn
  have h2 : W.ownsRow B t 1 v l.length (cr enc1 l) := by rw [cr1_map]; exact h
  exact Rx.own (enc := enc1) (fun _ => rfl) h2 hl
theorem comp_at (pn : Option Addr) (cn : Nat) (vf : Value) (names : List ByteArray) (ts : List Ex) (L : List Is) (out : List Int) (n : Int) (w : World) (hn : Sx w (.slice pn names.length cn) names) (hc : names.length ≤ cn) (hf : Lx NxO w vf (ts.map pre)) (hs : SyV names (ts.map pre)) (ha : ∀ t ∈ ts, Ar t) (hw : ∀ t ∈ ts, ∀ y ∈ pre t, NW y) (hL : (compT ts []).1.length ≤ 400) (hR : compT ts [] = (L, out)) (hN : (ts.length : Int) = n) :
    Calls Try.prog 17 #[.agg #[.slice pn names.length cn, vf]] w fun e w' => ∃ u r, e = .returned (.agg #[.int .i64 n, u, r]) ∧ Ix w' u L ∧ Px w' r out ∧ Below w.heap.size w w' := by
  have h := compile_ok pn cn vf names ts w hn hc hf hs ha hw hL
  have hl := hs.le
  have hlen := hs.len
  rw [List.length_map] at hlen
  have hol := comp_len ts []
  rw [hR] at h hL hol
  subst hN
  refine h.mono ?_
  rintro e w' ⟨u, r, rfl, h1, h2, h3⟩
  exact ⟨u, r, rfl, Rx.own encI_len h1 (by unfold maxLen; dsimp only at hL ⊢; omega), px_map h2 hol (by unfold maxLen; dsimp only at hol ⊢; omega), h3⟩
theorem opt_at (n : Int) (vl vo : Value) (L L2 : List Is) (out out2 : List Int) (w : World) (hl : Ix w vl L) (ho : Px w vo out) (htv : tvB n L out = true) (hR : optL L out = (L2, out2)) :
    Calls Try.prog 19 #[.agg #[.int .i64 n, vl, vo]] w fun e w' => ∃ u r, e = .returned (.agg #[.int .i64 n, u, r]) ∧ Ix w' u L2 ∧ Px w' r out2 ∧ Below w.heap.size w w' := by
  have h := optimize_ok n vl vo L out w hl ho htv
  obtain ⟨hn1, hn6, h400, hon, hvl, hout⟩ := tv_cases htv
  have hle := opt_le (N := n) hvl hout
  have hol : (optL L out).2.length = out.length := by unfold optL; rw [comp_len, List.length_map]
  rw [hR] at h hle hol
  refine h.mono ?_
  rintro e w' ⟨u, r, rfl, h1, h2, h3⟩
  exact ⟨u, r, rfl, Rx.own encI_len h1 (by unfold maxLen; dsimp only at hle ⊢; omega), px_map h2 hol (by unfold maxLen; dsimp only at hol ⊢; omega), h3⟩
theorem dec_at (n : Int) (vl vo : Value) (L : List Is) (out : List Int) (rows : List (List Nd)) (w : World) (hl : Ix w vl L) (ho : Px w vo out) (htv : tvB n L out = true) (hR : out.map (rowD L) = rows) :
    Calls Try.prog 24 #[.agg #[.int .i64 n, vl, vo]] w fun e w' => ∃ u, e = .returned u ∧ Lx NxO w' u rows ∧ Below w.heap.size w w' := by
  have h := decompile_ok n vl vo L out w hl ho htv
  obtain ⟨hn1, hn6, h400, hon, hvl, hout⟩ := tv_cases htv
  rw [hR] at h
  have hrl : rows.length = out.length := by rw [← hR, List.length_map]
  refine h.mono ?_
  rintro e w' ⟨u, rfl, ⟨us, h1⟩, h2⟩
  exact ⟨u, rfl, h1.lx (by unfold maxLen; omega), h2⟩
theorem valid_at (n : Int) (vl vo : Value) (L : List Is) (out : List Int) (b : Bool) (w : World) (hl : Ix w vl L) (ho : Px w vo out) (hR : tvB n L out = b) :
    Calls Try.prog 27 #[.agg #[.int .i64 n, vl, vo]] w fun e w' => e = .returned (.bool b) ∧ Below w.heap.size w w' := by
  subst hR
  exact tvalid_ok n vl vo L out w hl ho
/-- One lower-case letter, not t, is a name. -/
theorem nm_one (c : UInt8) (h1 : ltB c.toNat = true) (h2 : (c == 116) = false) : Nm ⟨#[c]⟩ := by
  have e : (⟨#[c]⟩ : ByteArray).toList = [c] := by rw [ByteArray.toList_eq]
  refine ⟨Nat.zero_lt_one, by show 1 ≤ 12; decide, ?_, ?_, ?_, ?_, ?_, ?_, fun _ => h1⟩
  · rw [e]; rfl
  · rw [e]; simp; simpa using h2
  · rw [e]; simp
  · rw [e]; simp
  · rw [e]; simp
  · intro d hd
    have hd : d = c := by simpa using hd
    subst hd
    rw [h1]
    rfl
end Go.Proofs.Ytajddejeglhbhaa

namespace Go.Proofs.Ytajddejeglhbhaa
open Go.ChangeShapes Go.WideShapes Go.ChangeAt Go.RowKit Go.Maps
set_option linter.unusedVariables false
set_option linter.unusedSimpArgs false
set_option maxRecDepth 100000
attribute [local irreducible] Calls
theorem san_comp : compT ([(.e2 ⟨9, 0, 0, 0⟩ (.e0 ⟨2, 1, 0, 0⟩) (.e0 ⟨2, 1, 0, 0⟩)), .e2 ⟨7, 0, 0, 0⟩ (.e2 ⟨9, 0, 0, 0⟩ (.e0 ⟨2, 1, 0, 0⟩) (.e0 ⟨2, 1, 0, 0⟩)) (.e0 ⟨3, 0, 0, 0⟩)] : List Ex) [] = ([⟨2, 1, 0, 0, 0⟩, ⟨9, 0, 0, 0, 0⟩, ⟨3, 0, 0, 0, 0⟩, ⟨7, 1, 2, 0, 0⟩], [1, 3]) := by decide
theorem san_rows : ([(.e2 ⟨9, 0, 0, 0⟩ (.e0 ⟨2, 1, 0, 0⟩) (.e0 ⟨2, 1, 0, 0⟩)), .e2 ⟨7, 0, 0, 0⟩ (.e2 ⟨9, 0, 0, 0⟩ (.e0 ⟨2, 1, 0, 0⟩) (.e0 ⟨2, 1, 0, 0⟩)) (.e0 ⟨3, 0, 0, 0⟩)] : List Ex).map pre = [[⟨9, 0, 0, 0⟩, ⟨2, 1, 0, 0⟩, ⟨2, 1, 0, 0⟩], [⟨7, 0, 0, 0⟩, ⟨9, 0, 0, 0⟩, ⟨2, 1, 0, 0⟩, ⟨2, 1, 0, 0⟩, ⟨3, 0, 0, 0⟩]] := rfl
theorem san_eval : outV (evL [(0, 0), (131072, 131072)] (65536, 65536) [⟨2, 1, 0, 0, 0⟩, ⟨9, 0, 0, 0, 0⟩, ⟨3, 0, 0, 0, 0⟩, ⟨7, 1, 2, 0, 0⟩]) [1, 3] = [(262144, 262144), (327680, 327680)] := by decide
theorem san_opt : optL [⟨3, 0, 0, 0, 0⟩, ⟨1, 0, 0, 5, 5⟩, ⟨1, 0, 0, 5, 5⟩, ⟨7, 2, 1, 0, 0⟩] [3] = ([⟨1, 0, 0, 5, 5⟩, ⟨7, 0, 0, 0, 0⟩], [1]) := by decide
theorem san_root : outV (evL [(-1, -1)] (0, 0) [⟨2, 0, 0, 0, 0⟩, ⟨6, 0, 0, 0, 0⟩]) [1] = [(-2147483648, 2147483648)] := by decide
theorem san_dec : ([1, 3] : List Int).map (rowD [⟨2, 1, 0, 0, 0⟩, ⟨9, 0, 0, 0, 0⟩, ⟨3, 0, 0, 0, 0⟩, ⟨7, 1, 2, 0, 0⟩]) = [[⟨9, 0, 0, 0⟩, ⟨2, 1, 0, 0⟩, ⟨2, 1, 0, 0⟩], [⟨7, 0, 0, 0⟩, ⟨9, 0, 0, 0⟩, ⟨2, 1, 0, 0⟩, ⟨2, 1, 0, 0⟩, ⟨3, 0, 0, 0⟩]] := by decide
theorem san_one : ([1] : List Int).map (rowD [⟨1, 0, 0, 65536, 65536⟩, ⟨4, 0, 0, 0, 0⟩]) = [[⟨4, 0, 0, 0⟩, ⟨1, 0, 65536, 65536⟩]] := by decide
theorem san_sys : SyV [⟨#[120]⟩, ⟨#[121]⟩] (([(.e2 ⟨9, 0, 0, 0⟩ (.e0 ⟨2, 1, 0, 0⟩) (.e0 ⟨2, 1, 0, 0⟩)), .e2 ⟨7, 0, 0, 0⟩ (.e2 ⟨9, 0, 0, 0⟩ (.e0 ⟨2, 1, 0, 0⟩) (.e0 ⟨2, 1, 0, 0⟩)) (.e0 ⟨3, 0, 0, 0⟩)] : List Ex).map pre) := by
  refine ⟨rfl, by decide, by decide, ?_, ?_, ?_⟩
  · intro s hs
    simp at hs
    rcases hs with rfl | rfl
    · exact nm_one 120 (by decide) (by decide)
    · exact nm_one 121 (by decide) (by decide)
  · simp
  · rw [san_rows]
    intro r hr
    simp at hr
    rcases hr with rfl | rfl <;> decide
theorem san_ar : ∀ t ∈ ([(.e2 ⟨9, 0, 0, 0⟩ (.e0 ⟨2, 1, 0, 0⟩) (.e0 ⟨2, 1, 0, 0⟩)), .e2 ⟨7, 0, 0, 0⟩ (.e2 ⟨9, 0, 0, 0⟩ (.e0 ⟨2, 1, 0, 0⟩) (.e0 ⟨2, 1, 0, 0⟩)) (.e0 ⟨3, 0, 0, 0⟩)] : List Ex), Ar t := by
  intro t ht
  simp at ht
  rcases ht with rfl | rfl
  · exact ⟨by decide, rfl, rfl⟩
  · exact ⟨by decide, ⟨by decide, rfl, rfl⟩, rfl⟩
theorem san_nw : ∀ t ∈ ([(.e2 ⟨9, 0, 0, 0⟩ (.e0 ⟨2, 1, 0, 0⟩) (.e0 ⟨2, 1, 0, 0⟩)), .e2 ⟨7, 0, 0, 0⟩ (.e2 ⟨9, 0, 0, 0⟩ (.e0 ⟨2, 1, 0, 0⟩) (.e0 ⟨2, 1, 0, 0⟩)) (.e0 ⟨3, 0, 0, 0⟩)] : List Ex), ∀ y ∈ pre t, NW y := by
  have h : ∀ r ∈ ([[⟨9, 0, 0, 0⟩, ⟨2, 1, 0, 0⟩, ⟨2, 1, 0, 0⟩], [⟨7, 0, 0, 0⟩, ⟨9, 0, 0, 0⟩, ⟨2, 1, 0, 0⟩, ⟨2, 1, 0, 0⟩, ⟨3, 0, 0, 0⟩]] : List (List Nd)), ∀ y ∈ r, NW y := by simp [NW, W64]
  rw [← san_rows] at h
  intro t ht y hy
  exact h (pre t) (List.mem_map_of_mem ht) y hy
theorem sbox_self (va vb : Value) (l : List (Int × Int)) (N : Nat) (w : World) (ha : Vx w va l) (hb : Vx w vb l) (hl : l.length = N) : Calls Try.prog 15 #[va, vb] w fun e w' => e = .returned (.bool true) ∧ Below w.heap.size w w' := by
  have h := sameboxes_ok va vb l l N w ha hb hl hl
  rwa [sbGo_self] at h
theorem lx_one (W : World) {u : Value} {l : List Nd} (h : NxO W u l) : Lx NxO (W.alloc (.cells #[u] 54)) (.slice (some ⟨W.heap.size, 0, none⟩) 1 1) [l] :=
  lx_blk (World.alloc_heap_new W _) rfl (by simp [maxLen]) (fun k x hx => by
    rcases k with _ | k
    · simp at hx
      subst hx
      exact ⟨_, rfl, h.grow ((Below.refl _ _).alloc (Nat.le_refl _) _)⟩
    · simp at hx)
set_option maxHeartbeats 64000000 in
theorem sanity8 (w : World) : Calls Try.prog 10 #[] w fun e w' => e = .returned (.bool true) ∧ Below w.heap.size w w' := by
  have HW := Lib.hid (Below.refl w.heap.size w)
  go_enter Try.func10, Try.ntmps10
  have hE : Below w.heap.size w ((((((w.alloc (.cells #[.int .i64 2, .int .i64 1, .int .i64 0, .int .i64 0] 62)).alloc (.cells #[.string ⟨#[120]⟩, .string ⟨#[121]⟩] 9)).alloc (.cells #[.int .i64 9, .int .i64 0, .int .i64 0, .int .i64 0, .int .i64 2, .int .i64 1, .int .i64 0, .int .i64 0, .int .i64 2, .int .i64 1, .int .i64 0, .int .i64 0] 62)).alloc (.cells #[.int .i64 7, .int .i64 0, .int .i64 0, .int .i64 0, .int .i64 9, .int .i64 0, .int .i64 0, .int .i64 0, .int .i64 2, .int .i64 1, .int .i64 0, .int .i64 0, .int .i64 2, .int .i64 1, .int .i64 0, .int .i64 0, .int .i64 3, .int .i64 0, .int .i64 0, .int .i64 0] 62)).alloc (.cells #[.slice (some ⟨w.heap.size + 1 + 1, 0, none⟩) 3 3, .slice (some ⟨w.heap.size + 1 + 1 + 1, 0, none⟩) 5 5] 54)).alloc (.cells #[.slice (some ⟨w.heap.size + 1, 0, none⟩) 2 2, .slice (some ⟨w.heap.size + 1 + 1 + 1 + 1, 0, none⟩) 2 2] 38)) := allocs_below [.cells #[.int .i64 2, .int .i64 1, .int .i64 0, .int .i64 0] 62, .cells #[.string ⟨#[120]⟩, .string ⟨#[121]⟩] 9, .cells #[.int .i64 9, .int .i64 0, .int .i64 0, .int .i64 0, .int .i64 2, .int .i64 1, .int .i64 0, .int .i64 0, .int .i64 2, .int .i64 1, .int .i64 0, .int .i64 0] 62, .cells #[.int .i64 7, .int .i64 0, .int .i64 0, .int .i64 0, .int .i64 9, .int .i64 0, .int .i64 0, .int .i64 0, .int .i64 2, .int .i64 1, .int .i64 0, .int .i64 0, .int .i64 2, .int .i64 1, .int .i64 0, .int .i64 0, .int .i64 3, .int .i64 0, .int .i64 0, .int .i64 0] 62, .cells #[.slice (some ⟨w.heap.size + 1 + 1, 0, none⟩) 3 3, .slice (some ⟨w.heap.size + 1 + 1 + 1, 0, none⟩) 5 5] 54, .cells #[.slice (some ⟨w.heap.size + 1, 0, none⟩) 2 2, .slice (some ⟨w.heap.size + 1 + 1 + 1 + 1, 0, none⟩) 2 2] 38] w
  have BS : Hid (Blk ((((((w.alloc (.cells #[.int .i64 2, .int .i64 1, .int .i64 0, .int .i64 0] 62)).alloc (.cells #[.string ⟨#[120]⟩, .string ⟨#[121]⟩] 9)).alloc (.cells #[.int .i64 9, .int .i64 0, .int .i64 0, .int .i64 0, .int .i64 2, .int .i64 1, .int .i64 0, .int .i64 0, .int .i64 2, .int .i64 1, .int .i64 0, .int .i64 0] 62)).alloc (.cells #[.int .i64 7, .int .i64 0, .int .i64 0, .int .i64 0, .int .i64 9, .int .i64 0, .int .i64 0, .int .i64 0, .int .i64 2, .int .i64 1, .int .i64 0, .int .i64 0, .int .i64 2, .int .i64 1, .int .i64 0, .int .i64 0, .int .i64 3, .int .i64 0, .int .i64 0, .int .i64 0] 62)).alloc (.cells #[.slice (some ⟨w.heap.size + 1 + 1, 0, none⟩) 3 3, .slice (some ⟨w.heap.size + 1 + 1 + 1, 0, none⟩) 5 5] 54)).alloc (.cells #[.slice (some ⟨w.heap.size + 1, 0, none⟩) 2 2, .slice (some ⟨w.heap.size + 1 + 1 + 1 + 1, 0, none⟩) 2 2] 38)) (w.heap.size + 1) (.cells #[.string ⟨#[120]⟩, .string ⟨#[121]⟩] 9)) := Lib.hid (allocs_at [.cells #[.int .i64 2, .int .i64 1, .int .i64 0, .int .i64 0] 62, .cells #[.string ⟨#[120]⟩, .string ⟨#[121]⟩] 9, .cells #[.int .i64 9, .int .i64 0, .int .i64 0, .int .i64 0, .int .i64 2, .int .i64 1, .int .i64 0, .int .i64 0, .int .i64 2, .int .i64 1, .int .i64 0, .int .i64 0] 62, .cells #[.int .i64 7, .int .i64 0, .int .i64 0, .int .i64 0, .int .i64 9, .int .i64 0, .int .i64 0, .int .i64 0, .int .i64 2, .int .i64 1, .int .i64 0, .int .i64 0, .int .i64 2, .int .i64 1, .int .i64 0, .int .i64 0, .int .i64 3, .int .i64 0, .int .i64 0, .int .i64 0] 62, .cells #[.slice (some ⟨w.heap.size + 1 + 1, 0, none⟩) 3 3, .slice (some ⟨w.heap.size + 1 + 1 + 1, 0, none⟩) 5 5] 54, .cells #[.slice (some ⟨w.heap.size + 1, 0, none⟩) 2 2, .slice (some ⟨w.heap.size + 1 + 1 + 1 + 1, 0, none⟩) 2 2] 38] w 1 _ rfl)
  have BR1 : Hid (Blk ((((((w.alloc (.cells #[.int .i64 2, .int .i64 1, .int .i64 0, .int .i64 0] 62)).alloc (.cells #[.string ⟨#[120]⟩, .string ⟨#[121]⟩] 9)).alloc (.cells #[.int .i64 9, .int .i64 0, .int .i64 0, .int .i64 0, .int .i64 2, .int .i64 1, .int .i64 0, .int .i64 0, .int .i64 2, .int .i64 1, .int .i64 0, .int .i64 0] 62)).alloc (.cells #[.int .i64 7, .int .i64 0, .int .i64 0, .int .i64 0, .int .i64 9, .int .i64 0, .int .i64 0, .int .i64 0, .int .i64 2, .int .i64 1, .int .i64 0, .int .i64 0, .int .i64 2, .int .i64 1, .int .i64 0, .int .i64 0, .int .i64 3, .int .i64 0, .int .i64 0, .int .i64 0] 62)).alloc (.cells #[.slice (some ⟨w.heap.size + 1 + 1, 0, none⟩) 3 3, .slice (some ⟨w.heap.size + 1 + 1 + 1, 0, none⟩) 5 5] 54)).alloc (.cells #[.slice (some ⟨w.heap.size + 1, 0, none⟩) 2 2, .slice (some ⟨w.heap.size + 1 + 1 + 1 + 1, 0, none⟩) 2 2] 38)) (w.heap.size + 1 + 1) (.cells #[.int .i64 9, .int .i64 0, .int .i64 0, .int .i64 0, .int .i64 2, .int .i64 1, .int .i64 0, .int .i64 0, .int .i64 2, .int .i64 1, .int .i64 0, .int .i64 0] 62)) := Lib.hid (allocs_at [.cells #[.int .i64 2, .int .i64 1, .int .i64 0, .int .i64 0] 62, .cells #[.string ⟨#[120]⟩, .string ⟨#[121]⟩] 9, .cells #[.int .i64 9, .int .i64 0, .int .i64 0, .int .i64 0, .int .i64 2, .int .i64 1, .int .i64 0, .int .i64 0, .int .i64 2, .int .i64 1, .int .i64 0, .int .i64 0] 62, .cells #[.int .i64 7, .int .i64 0, .int .i64 0, .int .i64 0, .int .i64 9, .int .i64 0, .int .i64 0, .int .i64 0, .int .i64 2, .int .i64 1, .int .i64 0, .int .i64 0, .int .i64 2, .int .i64 1, .int .i64 0, .int .i64 0, .int .i64 3, .int .i64 0, .int .i64 0, .int .i64 0] 62, .cells #[.slice (some ⟨w.heap.size + 1 + 1, 0, none⟩) 3 3, .slice (some ⟨w.heap.size + 1 + 1 + 1, 0, none⟩) 5 5] 54, .cells #[.slice (some ⟨w.heap.size + 1, 0, none⟩) 2 2, .slice (some ⟨w.heap.size + 1 + 1 + 1 + 1, 0, none⟩) 2 2] 38] w 2 _ rfl)
  have BR2 : Hid (Blk ((((((w.alloc (.cells #[.int .i64 2, .int .i64 1, .int .i64 0, .int .i64 0] 62)).alloc (.cells #[.string ⟨#[120]⟩, .string ⟨#[121]⟩] 9)).alloc (.cells #[.int .i64 9, .int .i64 0, .int .i64 0, .int .i64 0, .int .i64 2, .int .i64 1, .int .i64 0, .int .i64 0, .int .i64 2, .int .i64 1, .int .i64 0, .int .i64 0] 62)).alloc (.cells #[.int .i64 7, .int .i64 0, .int .i64 0, .int .i64 0, .int .i64 9, .int .i64 0, .int .i64 0, .int .i64 0, .int .i64 2, .int .i64 1, .int .i64 0, .int .i64 0, .int .i64 2, .int .i64 1, .int .i64 0, .int .i64 0, .int .i64 3, .int .i64 0, .int .i64 0, .int .i64 0] 62)).alloc (.cells #[.slice (some ⟨w.heap.size + 1 + 1, 0, none⟩) 3 3, .slice (some ⟨w.heap.size + 1 + 1 + 1, 0, none⟩) 5 5] 54)).alloc (.cells #[.slice (some ⟨w.heap.size + 1, 0, none⟩) 2 2, .slice (some ⟨w.heap.size + 1 + 1 + 1 + 1, 0, none⟩) 2 2] 38)) (w.heap.size + 1 + 1 + 1) (.cells #[.int .i64 7, .int .i64 0, .int .i64 0, .int .i64 0, .int .i64 9, .int .i64 0, .int .i64 0, .int .i64 0, .int .i64 2, .int .i64 1, .int .i64 0, .int .i64 0, .int .i64 2, .int .i64 1, .int .i64 0, .int .i64 0, .int .i64 3, .int .i64 0, .int .i64 0, .int .i64 0] 62)) := Lib.hid (allocs_at [.cells #[.int .i64 2, .int .i64 1, .int .i64 0, .int .i64 0] 62, .cells #[.string ⟨#[120]⟩, .string ⟨#[121]⟩] 9, .cells #[.int .i64 9, .int .i64 0, .int .i64 0, .int .i64 0, .int .i64 2, .int .i64 1, .int .i64 0, .int .i64 0, .int .i64 2, .int .i64 1, .int .i64 0, .int .i64 0] 62, .cells #[.int .i64 7, .int .i64 0, .int .i64 0, .int .i64 0, .int .i64 9, .int .i64 0, .int .i64 0, .int .i64 0, .int .i64 2, .int .i64 1, .int .i64 0, .int .i64 0, .int .i64 2, .int .i64 1, .int .i64 0, .int .i64 0, .int .i64 3, .int .i64 0, .int .i64 0, .int .i64 0] 62, .cells #[.slice (some ⟨w.heap.size + 1 + 1, 0, none⟩) 3 3, .slice (some ⟨w.heap.size + 1 + 1 + 1, 0, none⟩) 5 5] 54, .cells #[.slice (some ⟨w.heap.size + 1, 0, none⟩) 2 2, .slice (some ⟨w.heap.size + 1 + 1 + 1 + 1, 0, none⟩) 2 2] 38] w 3 _ rfl)
  have BRW : Hid (Blk ((((((w.alloc (.cells #[.int .i64 2, .int .i64 1, .int .i64 0, .int .i64 0] 62)).alloc (.cells #[.string ⟨#[120]⟩, .string ⟨#[121]⟩] 9)).alloc (.cells #[.int .i64 9, .int .i64 0, .int .i64 0, .int .i64 0, .int .i64 2, .int .i64 1, .int .i64 0, .int .i64 0, .int .i64 2, .int .i64 1, .int .i64 0, .int .i64 0] 62)).alloc (.cells #[.int .i64 7, .int .i64 0, .int .i64 0, .int .i64 0, .int .i64 9, .int .i64 0, .int .i64 0, .int .i64 0, .int .i64 2, .int .i64 1, .int .i64 0, .int .i64 0, .int .i64 2, .int .i64 1, .int .i64 0, .int .i64 0, .int .i64 3, .int .i64 0, .int .i64 0, .int .i64 0] 62)).alloc (.cells #[.slice (some ⟨w.heap.size + 1 + 1, 0, none⟩) 3 3, .slice (some ⟨w.heap.size + 1 + 1 + 1, 0, none⟩) 5 5] 54)).alloc (.cells #[.slice (some ⟨w.heap.size + 1, 0, none⟩) 2 2, .slice (some ⟨w.heap.size + 1 + 1 + 1 + 1, 0, none⟩) 2 2] 38)) (w.heap.size + 1 + 1 + 1 + 1) (.cells #[.slice (some ⟨w.heap.size + 1 + 1, 0, none⟩) 3 3, .slice (some ⟨w.heap.size + 1 + 1 + 1, 0, none⟩) 5 5] 54)) := Lib.hid (allocs_at [.cells #[.int .i64 2, .int .i64 1, .int .i64 0, .int .i64 0] 62, .cells #[.string ⟨#[120]⟩, .string ⟨#[121]⟩] 9, .cells #[.int .i64 9, .int .i64 0, .int .i64 0, .int .i64 0, .int .i64 2, .int .i64 1, .int .i64 0, .int .i64 0, .int .i64 2, .int .i64 1, .int .i64 0, .int .i64 0] 62, .cells #[.int .i64 7, .int .i64 0, .int .i64 0, .int .i64 0, .int .i64 9, .int .i64 0, .int .i64 0, .int .i64 0, .int .i64 2, .int .i64 1, .int .i64 0, .int .i64 0, .int .i64 2, .int .i64 1, .int .i64 0, .int .i64 0, .int .i64 3, .int .i64 0, .int .i64 0, .int .i64 0] 62, .cells #[.slice (some ⟨w.heap.size + 1 + 1, 0, none⟩) 3 3, .slice (some ⟨w.heap.size + 1 + 1 + 1, 0, none⟩) 5 5] 54, .cells #[.slice (some ⟨w.heap.size + 1, 0, none⟩) 2 2, .slice (some ⟨w.heap.size + 1 + 1 + 1 + 1, 0, none⟩) 2 2] 38] w 4 _ rfl)
  have BSY : Hid (Blk ((((((w.alloc (.cells #[.int .i64 2, .int .i64 1, .int .i64 0, .int .i64 0] 62)).alloc (.cells #[.string ⟨#[120]⟩, .string ⟨#[121]⟩] 9)).alloc (.cells #[.int .i64 9, .int .i64 0, .int .i64 0, .int .i64 0, .int .i64 2, .int .i64 1, .int .i64 0, .int .i64 0, .int .i64 2, .int .i64 1, .int .i64 0, .int .i64 0] 62)).alloc (.cells #[.int .i64 7, .int .i64 0, .int .i64 0, .int .i64 0, .int .i64 9, .int .i64 0, .int .i64 0, .int .i64 0, .int .i64 2, .int .i64 1, .int .i64 0, .int .i64 0, .int .i64 2, .int .i64 1, .int .i64 0, .int .i64 0, .int .i64 3, .int .i64 0, .int .i64 0, .int .i64 0] 62)).alloc (.cells #[.slice (some ⟨w.heap.size + 1 + 1, 0, none⟩) 3 3, .slice (some ⟨w.heap.size + 1 + 1 + 1, 0, none⟩) 5 5] 54)).alloc (.cells #[.slice (some ⟨w.heap.size + 1, 0, none⟩) 2 2, .slice (some ⟨w.heap.size + 1 + 1 + 1 + 1, 0, none⟩) 2 2] 38)) (w.heap.size + 1 + 1 + 1 + 1 + 1) (.cells #[.slice (some ⟨w.heap.size + 1, 0, none⟩) 2 2, .slice (some ⟨w.heap.size + 1 + 1 + 1 + 1, 0, none⟩) 2 2] 38)) := Lib.hid (allocs_at [.cells #[.int .i64 2, .int .i64 1, .int .i64 0, .int .i64 0] 62, .cells #[.string ⟨#[120]⟩, .string ⟨#[121]⟩] 9, .cells #[.int .i64 9, .int .i64 0, .int .i64 0, .int .i64 0, .int .i64 2, .int .i64 1, .int .i64 0, .int .i64 0, .int .i64 2, .int .i64 1, .int .i64 0, .int .i64 0] 62, .cells #[.int .i64 7, .int .i64 0, .int .i64 0, .int .i64 0, .int .i64 9, .int .i64 0, .int .i64 0, .int .i64 0, .int .i64 2, .int .i64 1, .int .i64 0, .int .i64 0, .int .i64 2, .int .i64 1, .int .i64 0, .int .i64 0, .int .i64 3, .int .i64 0, .int .i64 0, .int .i64 0] 62, .cells #[.slice (some ⟨w.heap.size + 1 + 1, 0, none⟩) 3 3, .slice (some ⟨w.heap.size + 1 + 1 + 1, 0, none⟩) 5 5] 54, .cells #[.slice (some ⟨w.heap.size + 1, 0, none⟩) 2 2, .slice (some ⟨w.heap.size + 1 + 1 + 1 + 1, 0, none⟩) 2 2] 38] w 5 _ rfl)
  have HW := Lib.hid (below_then HW.out hE)
  clear hE
  have SX := Lib.hid (rx_blk (n := 2) (l := [⟨#[120]⟩, ⟨#[121]⟩]) encS_len BS.out rfl rfl (by decide))
  have N1 := Lib.hid (nxo_blk (n := 3) (l := [⟨9, 0, 0, 0⟩, ⟨2, 1, 0, 0⟩, ⟨2, 1, 0, 0⟩]) BR1.out rfl rfl (by decide))
  have N2 := Lib.hid (nxo_blk (n := 5) (l := [⟨7, 0, 0, 0⟩, ⟨9, 0, 0, 0⟩, ⟨2, 1, 0, 0⟩, ⟨2, 1, 0, 0⟩, ⟨3, 0, 0, 0⟩]) BR2.out rfl rfl (by decide))
  have RW : Hid (Lx NxO ((((((w.alloc (.cells #[.int .i64 2, .int .i64 1, .int .i64 0, .int .i64 0] 62)).alloc (.cells #[.string ⟨#[120]⟩, .string ⟨#[121]⟩] 9)).alloc (.cells #[.int .i64 9, .int .i64 0, .int .i64 0, .int .i64 0, .int .i64 2, .int .i64 1, .int .i64 0, .int .i64 0, .int .i64 2, .int .i64 1, .int .i64 0, .int .i64 0] 62)).alloc (.cells #[.int .i64 7, .int .i64 0, .int .i64 0, .int .i64 0, .int .i64 9, .int .i64 0, .int .i64 0, .int .i64 0, .int .i64 2, .int .i64 1, .int .i64 0, .int .i64 0, .int .i64 2, .int .i64 1, .int .i64 0, .int .i64 0, .int .i64 3, .int .i64 0, .int .i64 0, .int .i64 0] 62)).alloc (.cells #[.slice (some ⟨w.heap.size + 1 + 1, 0, none⟩) 3 3, .slice (some ⟨w.heap.size + 1 + 1 + 1, 0, none⟩) 5 5] 54)).alloc (.cells #[.slice (some ⟨w.heap.size + 1, 0, none⟩) 2 2, .slice (some ⟨w.heap.size + 1 + 1 + 1 + 1, 0, none⟩) 2 2] 38)) (.slice (some ⟨w.heap.size + 1 + 1 + 1 + 1, 0, none⟩) 2 2) (([(.e2 ⟨9, 0, 0, 0⟩ (.e0 ⟨2, 1, 0, 0⟩) (.e0 ⟨2, 1, 0, 0⟩)), .e2 ⟨7, 0, 0, 0⟩ (.e2 ⟨9, 0, 0, 0⟩ (.e0 ⟨2, 1, 0, 0⟩) (.e0 ⟨2, 1, 0, 0⟩)) (.e0 ⟨3, 0, 0, 0⟩)] : List Ex).map pre)) := Lib.hid (lx_blk BRW.out rfl (by decide) (fun k x hx => by
    rw [san_rows] at hx
    rcases k with _ | _ | k
    · simp at hx
      subst hx
      exact ⟨_, rfl, N1.out⟩
    · simp at hx
      subst hx
      exact ⟨_, rfl, N2.out⟩
    · simp at hx))
  clear BS BR1 BR2 BRW N1 N2
  go_wp2_with (fail)
  refine (comp_at _ 2 _ [⟨#[120]⟩, ⟨#[121]⟩] ([(.e2 ⟨9, 0, 0, 0⟩ (.e0 ⟨2, 1, 0, 0⟩) (.e0 ⟨2, 1, 0, 0⟩)), .e2 ⟨7, 0, 0, 0⟩ (.e2 ⟨9, 0, 0, 0⟩ (.e0 ⟨2, 1, 0, 0⟩) (.e0 ⟨2, 1, 0, 0⟩)) (.e0 ⟨3, 0, 0, 0⟩)] : List Ex) [⟨2, 1, 0, 0, 0⟩, ⟨9, 0, 0, 0, 0⟩, ⟨3, 0, 0, 0, 0⟩, ⟨7, 1, 2, 0, 0⟩] [1, 3] 2 _ SX.out (by decide) RW.out san_sys san_ar san_nw (by rw [san_comp]; decide) san_comp rfl).mono ?_
  rintro e w1 ⟨uc, rc, rfl, IC, PC, hB⟩
  have BSY := Lib.hid (BSY.out.grow hB)
  have SX := Lib.hid (SX.out.grow hB)
  have RW := Lib.hid (RW.out.grow grows_nxo hB)
  have HW := Lib.hid (below_then HW.out hB)
  clear hB
  obtain ⟨p1, c1, rfl⟩ : ∃ p c, uc = .slice p 4 c := IC.cut
  obtain ⟨p2, c2, rfl⟩ : ∃ p c, rc = .slice p 2 c := PC.cut
  have IC := Lib.hid IC
  have PC := Lib.hid PC
  clear SX
  have hE : Below w1.heap.size w1 ((((w1.alloc (.cells #[.int .i64 2, .slice p1 4 c1, .slice p2 2 c2] 25)).alloc (.cells #[.int .i64 2, .int .i64 1, .int .i64 0, .int .i64 0, .int .i64 0, .int .i64 9, .int .i64 0, .int .i64 0, .int .i64 0, .int .i64 0, .int .i64 3, .int .i64 0, .int .i64 0, .int .i64 0, .int .i64 0, .int .i64 7, .int .i64 1, .int .i64 2, .int .i64 0, .int .i64 0] 59)).alloc (.cells #[.int .i64 1, .int .i64 3] 3)).alloc (.cells #[.int .i64 2, .slice (some ⟨w1.heap.size + 1, 0, none⟩) 4 4, .slice (some ⟨w1.heap.size + 1 + 1, 0, none⟩) 2 2] 25)) := allocs_below [.cells #[.int .i64 2, .slice p1 4 c1, .slice p2 2 c2] 25, .cells #[.int .i64 2, .int .i64 1, .int .i64 0, .int .i64 0, .int .i64 0, .int .i64 9, .int .i64 0, .int .i64 0, .int .i64 0, .int .i64 0, .int .i64 3, .int .i64 0, .int .i64 0, .int .i64 0, .int .i64 0, .int .i64 7, .int .i64 1, .int .i64 2, .int .i64 0, .int .i64 0] 59, .cells #[.int .i64 1, .int .i64 3] 3, .cells #[.int .i64 2, .slice (some ⟨w1.heap.size + 1, 0, none⟩) 4 4, .slice (some ⟨w1.heap.size + 1 + 1, 0, none⟩) 2 2] 25] w1
  have CB : Hid (Blk ((((w1.alloc (.cells #[.int .i64 2, .slice p1 4 c1, .slice p2 2 c2] 25)).alloc (.cells #[.int .i64 2, .int .i64 1, .int .i64 0, .int .i64 0, .int .i64 0, .int .i64 9, .int .i64 0, .int .i64 0, .int .i64 0, .int .i64 0, .int .i64 3, .int .i64 0, .int .i64 0, .int .i64 0, .int .i64 0, .int .i64 7, .int .i64 1, .int .i64 2, .int .i64 0, .int .i64 0] 59)).alloc (.cells #[.int .i64 1, .int .i64 3] 3)).alloc (.cells #[.int .i64 2, .slice (some ⟨w1.heap.size + 1, 0, none⟩) 4 4, .slice (some ⟨w1.heap.size + 1 + 1, 0, none⟩) 2 2] 25)) (w1.heap.size) (.cells #[.int .i64 2, .slice p1 4 c1, .slice p2 2 c2] 25)) := Lib.hid (allocs_at [.cells #[.int .i64 2, .slice p1 4 c1, .slice p2 2 c2] 25, .cells #[.int .i64 2, .int .i64 1, .int .i64 0, .int .i64 0, .int .i64 0, .int .i64 9, .int .i64 0, .int .i64 0, .int .i64 0, .int .i64 0, .int .i64 3, .int .i64 0, .int .i64 0, .int .i64 0, .int .i64 0, .int .i64 7, .int .i64 1, .int .i64 2, .int .i64 0, .int .i64 0] 59, .cells #[.int .i64 1, .int .i64 3] 3, .cells #[.int .i64 2, .slice (some ⟨w1.heap.size + 1, 0, none⟩) 4 4, .slice (some ⟨w1.heap.size + 1 + 1, 0, none⟩) 2 2] 25] w1 0 _ rfl)
  have BI : Hid (Blk ((((w1.alloc (.cells #[.int .i64 2, .slice p1 4 c1, .slice p2 2 c2] 25)).alloc (.cells #[.int .i64 2, .int .i64 1, .int .i64 0, .int .i64 0, .int .i64 0, .int .i64 9, .int .i64 0, .int .i64 0, .int .i64 0, .int .i64 0, .int .i64 3, .int .i64 0, .int .i64 0, .int .i64 0, .int .i64 0, .int .i64 7, .int .i64 1, .int .i64 2, .int .i64 0, .int .i64 0] 59)).alloc (.cells #[.int .i64 1, .int .i64 3] 3)).alloc (.cells #[.int .i64 2, .slice (some ⟨w1.heap.size + 1, 0, none⟩) 4 4, .slice (some ⟨w1.heap.size + 1 + 1, 0, none⟩) 2 2] 25)) (w1.heap.size + 1) (.cells #[.int .i64 2, .int .i64 1, .int .i64 0, .int .i64 0, .int .i64 0, .int .i64 9, .int .i64 0, .int .i64 0, .int .i64 0, .int .i64 0, .int .i64 3, .int .i64 0, .int .i64 0, .int .i64 0, .int .i64 0, .int .i64 7, .int .i64 1, .int .i64 2, .int .i64 0, .int .i64 0] 59)) := Lib.hid (allocs_at [.cells #[.int .i64 2, .slice p1 4 c1, .slice p2 2 c2] 25, .cells #[.int .i64 2, .int .i64 1, .int .i64 0, .int .i64 0, .int .i64 0, .int .i64 9, .int .i64 0, .int .i64 0, .int .i64 0, .int .i64 0, .int .i64 3, .int .i64 0, .int .i64 0, .int .i64 0, .int .i64 0, .int .i64 7, .int .i64 1, .int .i64 2, .int .i64 0, .int .i64 0] 59, .cells #[.int .i64 1, .int .i64 3] 3, .cells #[.int .i64 2, .slice (some ⟨w1.heap.size + 1, 0, none⟩) 4 4, .slice (some ⟨w1.heap.size + 1 + 1, 0, none⟩) 2 2] 25] w1 1 _ rfl)
  have BO : Hid (Blk ((((w1.alloc (.cells #[.int .i64 2, .slice p1 4 c1, .slice p2 2 c2] 25)).alloc (.cells #[.int .i64 2, .int .i64 1, .int .i64 0, .int .i64 0, .int .i64 0, .int .i64 9, .int .i64 0, .int .i64 0, .int .i64 0, .int .i64 0, .int .i64 3, .int .i64 0, .int .i64 0, .int .i64 0, .int .i64 0, .int .i64 7, .int .i64 1, .int .i64 2, .int .i64 0, .int .i64 0] 59)).alloc (.cells #[.int .i64 1, .int .i64 3] 3)).alloc (.cells #[.int .i64 2, .slice (some ⟨w1.heap.size + 1, 0, none⟩) 4 4, .slice (some ⟨w1.heap.size + 1 + 1, 0, none⟩) 2 2] 25)) (w1.heap.size + 1 + 1) (.cells #[.int .i64 1, .int .i64 3] 3)) := Lib.hid (allocs_at [.cells #[.int .i64 2, .slice p1 4 c1, .slice p2 2 c2] 25, .cells #[.int .i64 2, .int .i64 1, .int .i64 0, .int .i64 0, .int .i64 0, .int .i64 9, .int .i64 0, .int .i64 0, .int .i64 0, .int .i64 0, .int .i64 3, .int .i64 0, .int .i64 0, .int .i64 0, .int .i64 0, .int .i64 7, .int .i64 1, .int .i64 2, .int .i64 0, .int .i64 0] 59, .cells #[.int .i64 1, .int .i64 3] 3, .cells #[.int .i64 2, .slice (some ⟨w1.heap.size + 1, 0, none⟩) 4 4, .slice (some ⟨w1.heap.size + 1 + 1, 0, none⟩) 2 2] 25] w1 2 _ rfl)
  have BSY := Lib.hid (BSY.out.grow hE)
  have RW := Lib.hid (RW.out.grow grows_nxo hE)
  have IC := Lib.hid (IC.out.grow hE)
  have PC := Lib.hid (PC.out.grow hE)
  have HW := Lib.hid (below_then HW.out hE)
  clear hE
  have IW := Lib.hid (rx_blk (n := 4) (l := [⟨2, 1, 0, 0, 0⟩, ⟨9, 0, 0, 0, 0⟩, ⟨3, 0, 0, 0, 0⟩, ⟨7, 1, 2, 0, 0⟩]) encI_len BI.out rfl rfl (by decide))
  have PW := Lib.hid (rx_blk (n := 2) (enc := enc1) (l := [1, 3]) (fun _ => rfl) BO.out rfl rfl (by decide))
  clear BI BO
  go_wp2_with (fail)
  refine (tsame_ok 2 _ _ _ _ [⟨2, 1, 0, 0, 0⟩, ⟨9, 0, 0, 0, 0⟩, ⟨3, 0, 0, 0, 0⟩, ⟨7, 1, 2, 0, 0⟩] [1, 3] _ IC.out PC.out IW.out PW.out).mono ?_
  rintro e w2 ⟨rfl, hB⟩
  have BSY := Lib.hid (BSY.out.grow hB)
  have RW := Lib.hid (RW.out.grow grows_nxo hB)
  have IC := Lib.hid (IC.out.grow hB)
  have PC := Lib.hid (PC.out.grow hB)
  have CB := Lib.hid (CB.out.grow hB)
  have IW := Lib.hid (IW.out.grow hB)
  have PW := Lib.hid (PW.out.grow hB)
  have HW := Lib.hid (below_then HW.out hB)
  clear hB
  clear IW PW
  skip
  have k0 := fun g : Grown w2 => heapN_cellj (CB.out.grow g.h) (k := 0) rfl
  have k1 := fun g : Grown w2 => heapN_cellj (CB.out.grow g.h) (k := 1) rfl
  have k2 := fun g : Grown w2 => heapN_cellj (CB.out.grow g.h) (k := 2) rfl
  go_wp2_with (fail)
  refine region_pred (lk [(36, fun z_ _ => z_ = .agg #[.int .i64 2, .slice p1 4 c1, .slice p2 2 c2]), (37, fun z_ _ => z_ = .agg #[.int .i64 0, .int .i64 0]), (38, fun z_ _ => z_ = .agg #[.int .i64 131072, .int .i64 131072]), (39, fun z_ w' => Vx w' z_ [(0, 0), (131072, 131072)]), (40, fun z_ _ => z_ = .agg #[.int .i64 65536, .int .i64 65536]), (41, fun z_ w' => Vx w' z_ [(262144, 262144), (327680, 327680)]), (5, fun z_ w' => Vx w' z_ [(262144, 262144), (327680, 327680)])]) (by kernel_rfl) (by kernel_rfl) (lk_steady _ ⟨steady_eq _, steady_eq _, steady_eq _, fun u w1 w2 hb h => h.grow hb, steady_eq _, fun u w1 w2 hb h => h.grow hb, fun u w1 w2 hb h => h.grow hb, trivial⟩) ?_ ?_
  · refine ⟨?_, ?_, ?_, ?_, ?_, ?_, ?_, trivial⟩
    · refine ob_plain [3] rfl rfl fun aa g h => ?_
      have yy0 := seen_out (v := .pointer (some ⟨w1.heap.size, 0, none⟩)) rfl rfl h.1
      have ee0 := getD_of yy0
      exact tupon_value (v := .agg #[.int .i64 2, .slice p1 4 c1, .slice p2 2 c2]) (by simp [go_sem, ee0, yy0, k0 g, k1 g, k2 g]) (Below.refl _ _) rfl
    · refine ob_plain [] rfl rfl fun aa g h => ?_
      refine tupon_enter (f := 31) (args := #[.int .i64 0]) (by simp [go_sem]) rfl ?_
      exact (point_at 0 g.w (by decide) (by decide)).mono fun e w' ⟨he, hB⟩ => ⟨_, he, hB, rfl⟩
    · refine ob_plain [] rfl rfl fun aa g h => ?_
      refine tupon_enter (f := 31) (args := #[.int .i64 131072]) (by simp [go_sem]) rfl ?_
      exact (point_at 131072 g.w (by decide) (by decide)).mono fun e w' ⟨he, hB⟩ => ⟨_, he, hB, rfl⟩
    · refine ob_plain [37, 38] rfl rfl fun aa g h => ?_
      obtain ⟨_, yy0, rfl⟩ := seen_in rfl h.1
      have ee0 := getD_of yy0
      obtain ⟨_, yy1, rfl⟩ := seen_in rfl h.2.1
      have ee1 := getD_of yy1
      exact tupon_value (v := _) (w1 := g.w.alloc (.cells #[.int .i64 0, .int .i64 0, .int .i64 131072, .int .i64 131072] 28)) (by simp [go_sem, ee0, yy0, ee1, yy1]) ((Below.refl _ _).alloc (Nat.le_refl _) _) (rx_blk (n := 2) (l := [(0, 0), (131072, 131072)]) encB_len (World.alloc_heap_new g.w _) rfl rfl (by decide))
    · refine ob_plain [] rfl rfl fun aa g h => ?_
      refine tupon_enter (f := 31) (args := #[.int .i64 65536]) (by simp [go_sem]) rfl ?_
      exact (point_at 65536 g.w (by decide) (by decide)).mono fun e w' ⟨he, hB⟩ => ⟨_, he, hB, rfl⟩
    · refine ob_plain [36, 39, 40] rfl rfl fun aa g h => ?_
      obtain ⟨_, yy0, rfl⟩ := seen_in rfl h.1
      have ee0 := getD_of yy0
      obtain ⟨z39, yy1, hv39⟩ := seen_in rfl h.2.1
      have ee1 := getD_of yy1
      obtain ⟨_, yy2, rfl⟩ := seen_in rfl h.2.2.1
      have ee2 := getD_of yy2
      refine tupon_enter (f := 16) (args := #[.agg #[.int .i64 2, .slice p1 4 c1, .slice p2 2 c2], z39, .agg #[.int .i64 65536, .int .i64 65536]]) (by simp [go_sem, ee0, yy0, ee1, yy1, ee2, yy2]) rfl ?_
      exact (eval_at 2 _ _ z39 65536 65536 [⟨2, 1, 0, 0, 0⟩, ⟨9, 0, 0, 0, 0⟩, ⟨3, 0, 0, 0, 0⟩, ⟨7, 1, 2, 0, 0⟩] [1, 3] [(0, 0), (131072, 131072)] _ g.w (IC.out.grow g.h) (PC.out.grow g.h) hv39 rfl (by decide) (by decide) (by decide) san_eval).mono fun e w' ⟨u9, he, hv, hB⟩ => ⟨_, he, hB, hv⟩
    · refine ob_plain [41] rfl rfl fun aa g h => ?_
      obtain ⟨z41, yy0, hv41⟩ := seen_in rfl h.1
      have ee0 := getD_of yy0
      exact tupon_value (v := z41) (by simp [go_sem, ee0, yy0]) (Below.refl _ _) hv41
  rintro w3 hB _ rfl _ rfl _ rfl z39 hv39 _ rfl z41 hv41 z5 hv5
  simp only [Act.put, List.setIfInBounds_toArray, List.set_cons_succ, List.set_cons_zero, List.filterMap_nil, finP]
  clear k0 k1 k2 hv39 hv41
  have BSY := Lib.hid (BSY.out.grow hB)
  have RW := Lib.hid (RW.out.grow grows_nxo hB)
  have IC := Lib.hid (IC.out.grow hB)
  have PC := Lib.hid (PC.out.grow hB)
  have CB := Lib.hid (CB.out.grow hB)
  have HW := Lib.hid (below_then HW.out hB)
  clear hB
  obtain ⟨p5, c5, rfl⟩ : ∃ p c, z5 = .slice p 2 c := hv5.cut
  have VL := Lib.hid hv5
  clear hv5
  go_wp2_with (fail)
  refine (point_at 5 _ (by decide) (by decide)).mono ?_
  rintro e w4 ⟨rfl, hB⟩
  have BSY := Lib.hid (BSY.out.grow hB)
  have RW := Lib.hid (RW.out.grow grows_nxo hB)
  have IC := Lib.hid (IC.out.grow hB)
  have PC := Lib.hid (PC.out.grow hB)
  have CB := Lib.hid (CB.out.grow hB)
  have VL := Lib.hid (VL.out.grow hB)
  have HW := Lib.hid (below_then HW.out hB)
  clear hB
  go_wp2_with (fail)
  refine (point_at 5 _ (by decide) (by decide)).mono ?_
  rintro e w5 ⟨rfl, hB⟩
  have BSY := Lib.hid (BSY.out.grow hB)
  have RW := Lib.hid (RW.out.grow grows_nxo hB)
  have IC := Lib.hid (IC.out.grow hB)
  have PC := Lib.hid (PC.out.grow hB)
  have CB := Lib.hid (CB.out.grow hB)
  have VL := Lib.hid (VL.out.grow hB)
  have HW := Lib.hid (below_then HW.out hB)
  clear hB
  have hE : Below w5.heap.size w5 (((w5.alloc (.cells #[.int .i64 3, .int .i64 0, .int .i64 0, .int .i64 0, .int .i64 0, .int .i64 1, .int .i64 0, .int .i64 0, .int .i64 5, .int .i64 5, .int .i64 1, .int .i64 0, .int .i64 0, .int .i64 5, .int .i64 5, .int .i64 7, .int .i64 2, .int .i64 1, .int .i64 0, .int .i64 0] 59)).alloc (.cells #[.int .i64 3] 3)).alloc (.cells #[.int .i64 1, .slice (some ⟨w5.heap.size, 0, none⟩) 4 4, .slice (some ⟨w5.heap.size + 1, 0, none⟩) 1 1] 25)) := allocs_below [.cells #[.int .i64 3, .int .i64 0, .int .i64 0, .int .i64 0, .int .i64 0, .int .i64 1, .int .i64 0, .int .i64 0, .int .i64 5, .int .i64 5, .int .i64 1, .int .i64 0, .int .i64 0, .int .i64 5, .int .i64 5, .int .i64 7, .int .i64 2, .int .i64 1, .int .i64 0, .int .i64 0] 59, .cells #[.int .i64 3] 3, .cells #[.int .i64 1, .slice (some ⟨w5.heap.size, 0, none⟩) 4 4, .slice (some ⟨w5.heap.size + 1, 0, none⟩) 1 1] 25] w5
  have BI : Hid (Blk (((w5.alloc (.cells #[.int .i64 3, .int .i64 0, .int .i64 0, .int .i64 0, .int .i64 0, .int .i64 1, .int .i64 0, .int .i64 0, .int .i64 5, .int .i64 5, .int .i64 1, .int .i64 0, .int .i64 0, .int .i64 5, .int .i64 5, .int .i64 7, .int .i64 2, .int .i64 1, .int .i64 0, .int .i64 0] 59)).alloc (.cells #[.int .i64 3] 3)).alloc (.cells #[.int .i64 1, .slice (some ⟨w5.heap.size, 0, none⟩) 4 4, .slice (some ⟨w5.heap.size + 1, 0, none⟩) 1 1] 25)) (w5.heap.size) (.cells #[.int .i64 3, .int .i64 0, .int .i64 0, .int .i64 0, .int .i64 0, .int .i64 1, .int .i64 0, .int .i64 0, .int .i64 5, .int .i64 5, .int .i64 1, .int .i64 0, .int .i64 0, .int .i64 5, .int .i64 5, .int .i64 7, .int .i64 2, .int .i64 1, .int .i64 0, .int .i64 0] 59)) := Lib.hid (allocs_at [.cells #[.int .i64 3, .int .i64 0, .int .i64 0, .int .i64 0, .int .i64 0, .int .i64 1, .int .i64 0, .int .i64 0, .int .i64 5, .int .i64 5, .int .i64 1, .int .i64 0, .int .i64 0, .int .i64 5, .int .i64 5, .int .i64 7, .int .i64 2, .int .i64 1, .int .i64 0, .int .i64 0] 59, .cells #[.int .i64 3] 3, .cells #[.int .i64 1, .slice (some ⟨w5.heap.size, 0, none⟩) 4 4, .slice (some ⟨w5.heap.size + 1, 0, none⟩) 1 1] 25] w5 0 _ rfl)
  have BO : Hid (Blk (((w5.alloc (.cells #[.int .i64 3, .int .i64 0, .int .i64 0, .int .i64 0, .int .i64 0, .int .i64 1, .int .i64 0, .int .i64 0, .int .i64 5, .int .i64 5, .int .i64 1, .int .i64 0, .int .i64 0, .int .i64 5, .int .i64 5, .int .i64 7, .int .i64 2, .int .i64 1, .int .i64 0, .int .i64 0] 59)).alloc (.cells #[.int .i64 3] 3)).alloc (.cells #[.int .i64 1, .slice (some ⟨w5.heap.size, 0, none⟩) 4 4, .slice (some ⟨w5.heap.size + 1, 0, none⟩) 1 1] 25)) (w5.heap.size + 1) (.cells #[.int .i64 3] 3)) := Lib.hid (allocs_at [.cells #[.int .i64 3, .int .i64 0, .int .i64 0, .int .i64 0, .int .i64 0, .int .i64 1, .int .i64 0, .int .i64 0, .int .i64 5, .int .i64 5, .int .i64 1, .int .i64 0, .int .i64 0, .int .i64 5, .int .i64 5, .int .i64 7, .int .i64 2, .int .i64 1, .int .i64 0, .int .i64 0] 59, .cells #[.int .i64 3] 3, .cells #[.int .i64 1, .slice (some ⟨w5.heap.size, 0, none⟩) 4 4, .slice (some ⟨w5.heap.size + 1, 0, none⟩) 1 1] 25] w5 1 _ rfl)
  have DB : Hid (Blk (((w5.alloc (.cells #[.int .i64 3, .int .i64 0, .int .i64 0, .int .i64 0, .int .i64 0, .int .i64 1, .int .i64 0, .int .i64 0, .int .i64 5, .int .i64 5, .int .i64 1, .int .i64 0, .int .i64 0, .int .i64 5, .int .i64 5, .int .i64 7, .int .i64 2, .int .i64 1, .int .i64 0, .int .i64 0] 59)).alloc (.cells #[.int .i64 3] 3)).alloc (.cells #[.int .i64 1, .slice (some ⟨w5.heap.size, 0, none⟩) 4 4, .slice (some ⟨w5.heap.size + 1, 0, none⟩) 1 1] 25)) (w5.heap.size + 1 + 1) (.cells #[.int .i64 1, .slice (some ⟨w5.heap.size, 0, none⟩) 4 4, .slice (some ⟨w5.heap.size + 1, 0, none⟩) 1 1] 25)) := Lib.hid (allocs_at [.cells #[.int .i64 3, .int .i64 0, .int .i64 0, .int .i64 0, .int .i64 0, .int .i64 1, .int .i64 0, .int .i64 0, .int .i64 5, .int .i64 5, .int .i64 1, .int .i64 0, .int .i64 0, .int .i64 5, .int .i64 5, .int .i64 7, .int .i64 2, .int .i64 1, .int .i64 0, .int .i64 0] 59, .cells #[.int .i64 3] 3, .cells #[.int .i64 1, .slice (some ⟨w5.heap.size, 0, none⟩) 4 4, .slice (some ⟨w5.heap.size + 1, 0, none⟩) 1 1] 25] w5 2 _ rfl)
  have BSY := Lib.hid (BSY.out.grow hE)
  have RW := Lib.hid (RW.out.grow grows_nxo hE)
  have IC := Lib.hid (IC.out.grow hE)
  have PC := Lib.hid (PC.out.grow hE)
  have CB := Lib.hid (CB.out.grow hE)
  have VL := Lib.hid (VL.out.grow hE)
  have HW := Lib.hid (below_then HW.out hE)
  clear hE
  have ID := Lib.hid (rx_blk (n := 4) (l := [⟨3, 0, 0, 0, 0⟩, ⟨1, 0, 0, 5, 5⟩, ⟨1, 0, 0, 5, 5⟩, ⟨7, 2, 1, 0, 0⟩]) encI_len BI.out rfl rfl (by decide))
  have PD := Lib.hid (rx_blk (n := 1) (enc := enc1) (l := [3]) (fun _ => rfl) BO.out rfl rfl (by decide))
  clear BI BO
  go_wp2_with (fail)
  refine (opt_at 1 _ _ [⟨3, 0, 0, 0, 0⟩, ⟨1, 0, 0, 5, 5⟩, ⟨1, 0, 0, 5, 5⟩, ⟨7, 2, 1, 0, 0⟩] [⟨1, 0, 0, 5, 5⟩, ⟨7, 0, 0, 0, 0⟩] [3] [1] _ ID.out PD.out (by decide) san_opt).mono ?_
  rintro e w6 ⟨ue, re, rfl, IE, PE, hB⟩
  have BSY := Lib.hid (BSY.out.grow hB)
  have RW := Lib.hid (RW.out.grow grows_nxo hB)
  have IC := Lib.hid (IC.out.grow hB)
  have PC := Lib.hid (PC.out.grow hB)
  have CB := Lib.hid (CB.out.grow hB)
  have VL := Lib.hid (VL.out.grow hB)
  have DB := Lib.hid (DB.out.grow hB)
  have ID := Lib.hid (ID.out.grow hB)
  have PD := Lib.hid (PD.out.grow hB)
  have HW := Lib.hid (below_then HW.out hB)
  clear hB
  obtain ⟨p3, c3, rfl⟩ : ∃ p c, ue = .slice p 2 c := IE.cut
  obtain ⟨p4, c4, rfl⟩ : ∃ p c, re = .slice p 1 c := PE.cut
  have IE := Lib.hid IE
  have PE := Lib.hid PE
  have hE : Below w6.heap.size w6 (((w6.alloc (.cells #[.int .i64 1, .slice p3 2 c3, .slice p4 1 c4] 25)).alloc (.cells #[.int .i64 2, .int .i64 0, .int .i64 0, .int .i64 0, .int .i64 0, .int .i64 6, .int .i64 0, .int .i64 0, .int .i64 0, .int .i64 0] 59)).alloc (.cells #[.int .i64 1] 3)) := allocs_below [.cells #[.int .i64 1, .slice p3 2 c3, .slice p4 1 c4] 25, .cells #[.int .i64 2, .int .i64 0, .int .i64 0, .int .i64 0, .int .i64 0, .int .i64 6, .int .i64 0, .int .i64 0, .int .i64 0, .int .i64 0] 59, .cells #[.int .i64 1] 3] w6
  have EB : Hid (Blk (((w6.alloc (.cells #[.int .i64 1, .slice p3 2 c3, .slice p4 1 c4] 25)).alloc (.cells #[.int .i64 2, .int .i64 0, .int .i64 0, .int .i64 0, .int .i64 0, .int .i64 6, .int .i64 0, .int .i64 0, .int .i64 0, .int .i64 0] 59)).alloc (.cells #[.int .i64 1] 3)) (w6.heap.size) (.cells #[.int .i64 1, .slice p3 2 c3, .slice p4 1 c4] 25)) := Lib.hid (allocs_at [.cells #[.int .i64 1, .slice p3 2 c3, .slice p4 1 c4] 25, .cells #[.int .i64 2, .int .i64 0, .int .i64 0, .int .i64 0, .int .i64 0, .int .i64 6, .int .i64 0, .int .i64 0, .int .i64 0, .int .i64 0] 59, .cells #[.int .i64 1] 3] w6 0 _ rfl)
  have BI : Hid (Blk (((w6.alloc (.cells #[.int .i64 1, .slice p3 2 c3, .slice p4 1 c4] 25)).alloc (.cells #[.int .i64 2, .int .i64 0, .int .i64 0, .int .i64 0, .int .i64 0, .int .i64 6, .int .i64 0, .int .i64 0, .int .i64 0, .int .i64 0] 59)).alloc (.cells #[.int .i64 1] 3)) (w6.heap.size + 1) (.cells #[.int .i64 2, .int .i64 0, .int .i64 0, .int .i64 0, .int .i64 0, .int .i64 6, .int .i64 0, .int .i64 0, .int .i64 0, .int .i64 0] 59)) := Lib.hid (allocs_at [.cells #[.int .i64 1, .slice p3 2 c3, .slice p4 1 c4] 25, .cells #[.int .i64 2, .int .i64 0, .int .i64 0, .int .i64 0, .int .i64 0, .int .i64 6, .int .i64 0, .int .i64 0, .int .i64 0, .int .i64 0] 59, .cells #[.int .i64 1] 3] w6 1 _ rfl)
  have BO : Hid (Blk (((w6.alloc (.cells #[.int .i64 1, .slice p3 2 c3, .slice p4 1 c4] 25)).alloc (.cells #[.int .i64 2, .int .i64 0, .int .i64 0, .int .i64 0, .int .i64 0, .int .i64 6, .int .i64 0, .int .i64 0, .int .i64 0, .int .i64 0] 59)).alloc (.cells #[.int .i64 1] 3)) (w6.heap.size + 1 + 1) (.cells #[.int .i64 1] 3)) := Lib.hid (allocs_at [.cells #[.int .i64 1, .slice p3 2 c3, .slice p4 1 c4] 25, .cells #[.int .i64 2, .int .i64 0, .int .i64 0, .int .i64 0, .int .i64 0, .int .i64 6, .int .i64 0, .int .i64 0, .int .i64 0, .int .i64 0] 59, .cells #[.int .i64 1] 3] w6 2 _ rfl)
  have BSY := Lib.hid (BSY.out.grow hE)
  have RW := Lib.hid (RW.out.grow grows_nxo hE)
  have IC := Lib.hid (IC.out.grow hE)
  have PC := Lib.hid (PC.out.grow hE)
  have CB := Lib.hid (CB.out.grow hE)
  have VL := Lib.hid (VL.out.grow hE)
  have DB := Lib.hid (DB.out.grow hE)
  have ID := Lib.hid (ID.out.grow hE)
  have PD := Lib.hid (PD.out.grow hE)
  have IE := Lib.hid (IE.out.grow hE)
  have PE := Lib.hid (PE.out.grow hE)
  have HW := Lib.hid (below_then HW.out hE)
  clear hE
  have IR := Lib.hid (rx_blk (n := 2) (l := [⟨2, 0, 0, 0, 0⟩, ⟨6, 0, 0, 0, 0⟩]) encI_len BI.out rfl rfl (by decide))
  have PR := Lib.hid (rx_blk (n := 1) (enc := enc1) (l := [1]) (fun _ => rfl) BO.out rfl rfl (by decide))
  clear BI BO
  go_wp2_with (fail)
  refine (point_at (-1) _ (by decide) (by decide)).mono ?_
  rintro e w7 ⟨rfl, hB⟩
  have BSY := Lib.hid (BSY.out.grow hB)
  have RW := Lib.hid (RW.out.grow grows_nxo hB)
  have IC := Lib.hid (IC.out.grow hB)
  have PC := Lib.hid (PC.out.grow hB)
  have CB := Lib.hid (CB.out.grow hB)
  have VL := Lib.hid (VL.out.grow hB)
  have DB := Lib.hid (DB.out.grow hB)
  have ID := Lib.hid (ID.out.grow hB)
  have PD := Lib.hid (PD.out.grow hB)
  have IE := Lib.hid (IE.out.grow hB)
  have PE := Lib.hid (PE.out.grow hB)
  have EB := Lib.hid (EB.out.grow hB)
  have IR := Lib.hid (IR.out.grow hB)
  have PR := Lib.hid (PR.out.grow hB)
  have HW := Lib.hid (below_then HW.out hB)
  clear hB
  have hE : Below w7.heap.size w7 (w7.alloc (.cells #[.int .i64 (-1), .int .i64 (-1)] 28)) := allocs_below [.cells #[.int .i64 (-1), .int .i64 (-1)] 28] w7
  have BX : Hid (Blk (w7.alloc (.cells #[.int .i64 (-1), .int .i64 (-1)] 28)) (w7.heap.size) (.cells #[.int .i64 (-1), .int .i64 (-1)] 28)) := Lib.hid (allocs_at [.cells #[.int .i64 (-1), .int .i64 (-1)] 28] w7 0 _ rfl)
  have BSY := Lib.hid (BSY.out.grow hE)
  have RW := Lib.hid (RW.out.grow grows_nxo hE)
  have IC := Lib.hid (IC.out.grow hE)
  have PC := Lib.hid (PC.out.grow hE)
  have CB := Lib.hid (CB.out.grow hE)
  have VL := Lib.hid (VL.out.grow hE)
  have DB := Lib.hid (DB.out.grow hE)
  have ID := Lib.hid (ID.out.grow hE)
  have PD := Lib.hid (PD.out.grow hE)
  have IE := Lib.hid (IE.out.grow hE)
  have PE := Lib.hid (PE.out.grow hE)
  have EB := Lib.hid (EB.out.grow hE)
  have IR := Lib.hid (IR.out.grow hE)
  have PR := Lib.hid (PR.out.grow hE)
  have HW := Lib.hid (below_then HW.out hE)
  clear hE
  have VX := Lib.hid (rx_blk (n := 1) (l := [(-1, -1)]) encB_len BX.out rfl rfl (by decide))
  clear BX
  go_wp2_with (fail)
  refine (point_at 0 _ (by decide) (by decide)).mono ?_
  rintro e w8 ⟨rfl, hB⟩
  have BSY := Lib.hid (BSY.out.grow hB)
  have RW := Lib.hid (RW.out.grow grows_nxo hB)
  have IC := Lib.hid (IC.out.grow hB)
  have PC := Lib.hid (PC.out.grow hB)
  have CB := Lib.hid (CB.out.grow hB)
  have VL := Lib.hid (VL.out.grow hB)
  have DB := Lib.hid (DB.out.grow hB)
  have ID := Lib.hid (ID.out.grow hB)
  have PD := Lib.hid (PD.out.grow hB)
  have IE := Lib.hid (IE.out.grow hB)
  have PE := Lib.hid (PE.out.grow hB)
  have EB := Lib.hid (EB.out.grow hB)
  have IR := Lib.hid (IR.out.grow hB)
  have PR := Lib.hid (PR.out.grow hB)
  have VX := Lib.hid (VX.out.grow hB)
  have HW := Lib.hid (below_then HW.out hB)
  clear hB
  go_wp2_with (fail)
  refine (eval_at 1 _ _ _ 0 0 [⟨2, 0, 0, 0, 0⟩, ⟨6, 0, 0, 0, 0⟩] [1] [(-1, -1)] _ _ IR.out PR.out VX.out rfl (by decide) (by decide) (by decide) san_root).mono ?_
  rintro e w9 ⟨ur, rfl, VR, hB⟩
  have BSY := Lib.hid (BSY.out.grow hB)
  have RW := Lib.hid (RW.out.grow grows_nxo hB)
  have IC := Lib.hid (IC.out.grow hB)
  have PC := Lib.hid (PC.out.grow hB)
  have CB := Lib.hid (CB.out.grow hB)
  have VL := Lib.hid (VL.out.grow hB)
  have DB := Lib.hid (DB.out.grow hB)
  have ID := Lib.hid (ID.out.grow hB)
  have PD := Lib.hid (PD.out.grow hB)
  have IE := Lib.hid (IE.out.grow hB)
  have PE := Lib.hid (PE.out.grow hB)
  have EB := Lib.hid (EB.out.grow hB)
  have IR := Lib.hid (IR.out.grow hB)
  have PR := Lib.hid (PR.out.grow hB)
  have VX := Lib.hid (VX.out.grow hB)
  have HW := Lib.hid (below_then HW.out hB)
  clear hB
  obtain ⟨pr, cr', rfl⟩ : ∃ p c, ur = .slice p 1 c := VR.cut
  have VR := Lib.hid VR
  clear IR PR VX
  simp only [List.length_singleton]
  obtain ⟨bq, oq, rfl, hbq, rdq⟩ := vx_rd (i := 0) VR.out rfl
  simp only [Nat.zero_mul, Nat.add_zero] at rdq
  have RQ := Lib.hid rdq
  clear rdq
  go_wp2_with (fail)
  simp only [List.append_eq, List.cons_append, List.nil_append]
  have kc0 := fun g : Grown w9 => heapN_cellj (CB.out.grow g.h) (k := 0) rfl
  have kc1 := fun g : Grown w9 => heapN_cellj (CB.out.grow g.h) (k := 1) rfl
  have kc2 := fun g : Grown w9 => heapN_cellj (CB.out.grow g.h) (k := 2) rfl
  have kd0 := fun g : Grown w9 => heapN_cellj (DB.out.grow g.h) (k := 0) rfl
  have kd1 := fun g : Grown w9 => heapN_cellj (DB.out.grow g.h) (k := 1) rfl
  have kd2 := fun g : Grown w9 => heapN_cellj (DB.out.grow g.h) (k := 2) rfl
  have ke0 := fun g : Grown w9 => heapN_cellj (EB.out.grow g.h) (k := 0) rfl
  have ke1 := fun g : Grown w9 => heapN_cellj (EB.out.grow g.h) (k := 1) rfl
  have ke2 := fun g : Grown w9 => heapN_cellj (EB.out.grow g.h) (k := 2) rfl
  have s1 := fun g : Grown w9 => heapN_cellj (BSY.out.grow g.h) (k := 1) rfl
  have r0 := fun g : Grown w9 => (RQ.out g).1
  have r1 := fun g : Grown w9 => (RQ.out g).2
  have RW2 := RW.out
  rw [san_rows] at RW2
  have RWH := Lib.hid RW2
  clear RW2
  refine region_pred (lk [(65, fun z_ _ => z_ = .slice p5 2 c5), (66, fun z_ _ => z_ = .agg #[.int .i64 262144, .int .i64 262144]), (67, fun z_ _ => z_ = .agg #[.int .i64 327680, .int .i64 327680]), (68, fun z_ w' => ∃ X_, z_ = (.slice (some ⟨X_, 0, none⟩) 2 2) ∧ Vx w' (.slice (some ⟨X_, 0, none⟩) 2 2) [(262144, 262144), (327680, 327680)]), (69, fun z_ _ => z_ = .bool true), (70, fun z_ _ => z_ = .bool true), (71, fun z_ _ => z_ = .agg #[.int .i64 2, .slice p1 4 c1, .slice p2 2 c2]), (72, fun z_ w' => Lx NxO w' z_ [[⟨9, 0, 0, 0⟩, ⟨2, 1, 0, 0⟩, ⟨2, 1, 0, 0⟩], [⟨7, 0, 0, 0⟩, ⟨9, 0, 0, 0⟩, ⟨2, 1, 0, 0⟩, ⟨2, 1, 0, 0⟩, ⟨3, 0, 0, 0⟩]]), (73, fun z_ _ => z_ = .pointer (some ⟨w.heap.size + 1 + 1 + 1 + 1 + 1, 1, none⟩)), (74, fun z_ _ => z_ = .slice (some ⟨w.heap.size + 1 + 1 + 1 + 1, 0, none⟩) 2 2), (75, fun z_ _ => z_ = .bool true), (76, fun z_ _ => z_ = .bool true), (77, fun z_ _ => z_ = .bool true), (78, fun z_ _ => z_ = .agg #[.int .i64 1, .slice p3 2 c3, .slice p4 1 c4]), (79, fun z_ _ => z_ = .agg #[.int .i64 5, .int .i64 5]), (80, fun z_ _ => z_ = .agg #[.int .i64 1, .int .i64 0, .int .i64 0, .int .i64 5, .int .i64 5]), (81, fun z_ _ => z_ = .agg #[.int .i64 7, .int .i64 0, .int .i64 0, .int .i64 0, .int .i64 0]), (82, fun z_ w' => ∃ X_, z_ = (.slice (some ⟨X_, 0, none⟩) 2 2) ∧ Ix w' (.slice (some ⟨X_, 0, none⟩) 2 2) [⟨1, 0, 0, 5, 5⟩, ⟨7, 0, 0, 0, 0⟩]), (83, fun z_ w' => ∃ X_, z_ = (.slice (some ⟨X_, 0, none⟩) 1 1) ∧ Px w' (.slice (some ⟨X_, 0, none⟩) 1 1) [1]), (84, fun z_ w' => ∃ X_ Y_, z_ = .agg #[.int .i64 1, .slice (some ⟨X_, 0, none⟩) 2 2, .slice (some ⟨Y_, 0, none⟩) 1 1] ∧ Ix w' (.slice (some ⟨X_, 0, none⟩) 2 2) [⟨1, 0, 0, 5, 5⟩, ⟨7, 0, 0, 0, 0⟩] ∧ Px w' (.slice (some ⟨Y_, 0, none⟩) 1 1) [1]), (85, fun z_ _ => z_ = .bool true), (86, fun z_ _ => z_ = .bool true), (87, fun z_ _ => z_ = .bool true), (88, fun z_ _ => z_ = .slice (some ⟨bq, oq, none⟩) 1 cr'), (89, fun z_ _ => z_ = .pointer (some ⟨bq, oq, none⟩)), (90, fun z_ _ => z_ = .agg #[.int .i64 (-2147483648), .int .i64 2147483648]), (91, fun z_ _ => z_ = .bool true), (92, fun z_ _ => z_ = .bool true), (93, fun z_ _ => z_ = .bool true), (94, fun z_ _ => z_ = .agg #[.int .i64 2, .slice p1 4 c1, .slice p2 2 c2]), (95, fun z_ _ => z_ = .bool true), (96, fun z_ _ => z_ = .bool true), (97, fun z_ _ => z_ = .bool true), (98, fun z_ _ => z_ = .agg #[.int .i64 1, .slice (some ⟨w5.heap.size, 0, none⟩) 4 4, .slice (some ⟨w5.heap.size + 1, 0, none⟩) 1 1]), (99, fun z_ _ => z_ = .bool true), (100, fun z_ _ => z_ = .bool true), (101, fun z_ _ => z_ = .bool true), (102, fun z_ _ => z_ = .agg #[.int .i64 0, .slice none 0 0, .slice none 0 0]), (103, fun z_ _ => z_ = .bool false), (104, fun z_ _ => z_ = .bool true), (105, fun z_ _ => z_ = .bool true), (106, fun z_ _ => z_ = .bool true), (107, fun z_ _ => z_ = .agg #[.int .i64 4, .int .i64 0, .int .i64 0, .int .i64 0, .int .i64 0]), (108, fun z_ w' => ∃ X_, z_ = (.slice (some ⟨X_, 0, none⟩) 1 1) ∧ Ix w' (.slice (some ⟨X_, 0, none⟩) 1 1) [⟨4, 0, 0, 0, 0⟩]), (109, fun z_ w' => ∃ X_, z_ = (.slice (some ⟨X_, 0, none⟩) 1 1) ∧ Px w' (.slice (some ⟨X_, 0, none⟩) 1 1) [0]), (110, fun z_ w' => ∃ X_ Y_, z_ = .agg #[.int .i64 1, .slice (some ⟨X_, 0, none⟩) 1 1, .slice (some ⟨Y_, 0, none⟩) 1 1] ∧ Ix w' (.slice (some ⟨X_, 0, none⟩) 1 1) [⟨4, 0, 0, 0, 0⟩] ∧ Px w' (.slice (some ⟨Y_, 0, none⟩) 1 1) [0]), (111, fun z_ _ => z_ = .bool false), (112, fun z_ _ => z_ = .bool true), (113, fun z_ _ => z_ = .bool true), (114, fun z_ _ => z_ = .bool true), (115, fun z_ _ => z_ = .agg #[.int .i64 2, .int .i64 1, .int .i64 0, .int .i64 0, .int .i64 0]), (116, fun z_ w' => ∃ X_, z_ = (.slice (some ⟨X_, 0, none⟩) 1 1) ∧ Ix w' (.slice (some ⟨X_, 0, none⟩) 1 1) [⟨2, 1, 0, 0, 0⟩]), (117, fun z_ w' => ∃ X_, z_ = (.slice (some ⟨X_, 0, none⟩) 1 1) ∧ Px w' (.slice (some ⟨X_, 0, none⟩) 1 1) [0]), (118, fun z_ w' => ∃ X_ Y_, z_ = .agg #[.int .i64 1, .slice (some ⟨X_, 0, none⟩) 1 1, .slice (some ⟨Y_, 0, none⟩) 1 1] ∧ Ix w' (.slice (some ⟨X_, 0, none⟩) 1 1) [⟨2, 1, 0, 0, 0⟩] ∧ Px w' (.slice (some ⟨Y_, 0, none⟩) 1 1) [0]), (119, fun z_ _ => z_ = .bool false), (120, fun z_ _ => z_ = .bool true), (121, fun z_ _ => z_ = .bool true), (122, fun z_ _ => z_ = .bool true), (123, fun z_ _ => z_ = .agg #[.int .i64 1, .int .i64 0, .int .i64 0, .int .i64 65536, .int .i64 65536]), (124, fun z_ _ => z_ = .agg #[.int .i64 4, .int .i64 0, .int .i64 0, .int .i64 0, .int .i64 0]), (125, fun z_ w' => ∃ X_, z_ = (.slice (some ⟨X_, 0, none⟩) 2 2) ∧ Ix w' (.slice (some ⟨X_, 0, none⟩) 2 2) [⟨1, 0, 0, 65536, 65536⟩, ⟨4, 0, 0, 0, 0⟩]), (126, fun z_ w' => ∃ X_, z_ = (.slice (some ⟨X_, 0, none⟩) 1 1) ∧ Px w' (.slice (some ⟨X_, 0, none⟩) 1 1) [1]), (127, fun z_ w' => ∃ X_ Y_, z_ = .agg #[.int .i64 1, .slice (some ⟨X_, 0, none⟩) 2 2, .slice (some ⟨Y_, 0, none⟩) 1 1] ∧ Ix w' (.slice (some ⟨X_, 0, none⟩) 2 2) [⟨1, 0, 0, 65536, 65536⟩, ⟨4, 0, 0, 0, 0⟩] ∧ Px w' (.slice (some ⟨Y_, 0, none⟩) 1 1) [1]), (128, fun z_ w' => Lx NxO w' z_ [[⟨4, 0, 0, 0⟩, ⟨1, 0, 65536, 65536⟩]]), (129, fun z_ _ => z_ = .agg #[.int .i64 4, .int .i64 0, .int .i64 0, .int .i64 0]), (130, fun z_ _ => z_ = .agg #[.int .i64 1, .int .i64 0, .int .i64 65536, .int .i64 65536]), (131, fun z_ w' => ∃ X_, z_ = (.slice (some ⟨X_, 0, none⟩) 2 2) ∧ NxO w' (.slice (some ⟨X_, 0, none⟩) 2 2) [⟨4, 0, 0, 0⟩, ⟨1, 0, 65536, 65536⟩]), (132, fun z_ w' => ∃ X_, z_ = (.slice (some ⟨X_, 0, none⟩) 1 1) ∧ Lx NxO w' (.slice (some ⟨X_, 0, none⟩) 1 1) [[⟨4, 0, 0, 0⟩, ⟨1, 0, 65536, 65536⟩]]), (133, fun z_ _ => z_ = .bool true), (134, fun z_ _ => z_ = .bool true), (0, fun z_ _ => z_ = .bool true)]) (by kernel_rfl) (by kernel_rfl) (lk_steady _ ⟨steady_eq _, steady_eq _, steady_eq _, fun u w1 w2 hb ⟨X, e, h⟩ => ⟨X, e, h.grow hb⟩, steady_eq _, steady_eq _, steady_eq _, fun u w1 w2 hb h => h.grow grows_nxo hb, steady_eq _, steady_eq _, steady_eq _, steady_eq _, steady_eq _, steady_eq _, steady_eq _, steady_eq _, steady_eq _, fun u w1 w2 hb ⟨X, e, h⟩ => ⟨X, e, h.grow hb⟩, fun u w1 w2 hb ⟨X, e, h⟩ => ⟨X, e, h.grow hb⟩, fun u w1 w2 hb ⟨X, Y, e, h1, h2⟩ => ⟨X, Y, e, h1.grow hb, h2.grow hb⟩, steady_eq _, steady_eq _, steady_eq _, steady_eq _, steady_eq _, steady_eq _, steady_eq _, steady_eq _, steady_eq _, steady_eq _, steady_eq _, steady_eq _, steady_eq _, steady_eq _, steady_eq _, steady_eq _, steady_eq _, steady_eq _, steady_eq _, steady_eq _, steady_eq _, steady_eq _, steady_eq _, fun u w1 w2 hb ⟨X, e, h⟩ => ⟨X, e, h.grow hb⟩, fun u w1 w2 hb ⟨X, e, h⟩ => ⟨X, e, h.grow hb⟩, fun u w1 w2 hb ⟨X, Y, e, h1, h2⟩ => ⟨X, Y, e, h1.grow hb, h2.grow hb⟩, steady_eq _, steady_eq _, steady_eq _, steady_eq _, steady_eq _, fun u w1 w2 hb ⟨X, e, h⟩ => ⟨X, e, h.grow hb⟩, fun u w1 w2 hb ⟨X, e, h⟩ => ⟨X, e, h.grow hb⟩, fun u w1 w2 hb ⟨X, Y, e, h1, h2⟩ => ⟨X, Y, e, h1.grow hb, h2.grow hb⟩, steady_eq _, steady_eq _, steady_eq _, steady_eq _, steady_eq _, steady_eq _, fun u w1 w2 hb ⟨X, e, h⟩ => ⟨X, e, h.grow hb⟩, fun u w1 w2 hb ⟨X, e, h⟩ => ⟨X, e, h.grow hb⟩, fun u w1 w2 hb ⟨X, Y, e, h1, h2⟩ => ⟨X, Y, e, h1.grow hb, h2.grow hb⟩, fun u w1 w2 hb h => h.grow grows_nxo hb, steady_eq _, steady_eq _, fun u w1 w2 hb ⟨X, e, h⟩ => ⟨X, e, h.grow hb⟩, fun u w1 w2 hb ⟨X, e, h⟩ => ⟨X, e, h.grow grows_nxo hb⟩, steady_eq _, steady_eq _, steady_eq _, trivial⟩) ?_ ?_
  · refine ⟨?_, ?_, ?_, ?_, ?_, ?_, ?_, ?_, ?_, ?_, ?_, ?_, ?_, ?_, ?_, ?_, ?_, ?_, ?_, ?_, ?_, ?_, ?_, ?_, ?_, ?_, ?_, ?_, ?_, ?_, ?_, ?_, ?_, ?_, ?_, ?_, ?_, ?_, ?_, ?_, ?_, ?_, ?_, ?_, ?_, ?_, ?_, ?_, ?_, ?_, ?_, ?_, ?_, ?_, ?_, ?_, ?_, ?_, ?_, ?_, ?_, ?_, ?_, ?_, ?_, ?_, ?_, ?_, ?_, ?_, ?_, trivial⟩
    · refine ob_plain [5] rfl rfl fun aa g h => ?_
      have yy0 := seen_out (v := .slice p5 2 c5) rfl rfl h.1
      have ee0 := getD_of yy0
      exact tupon_value (v := .slice p5 2 c5) (by simp [go_sem, ee0, yy0]) (Below.refl _ _) rfl
    · refine ob_plain [] rfl rfl fun aa g h => ?_
      refine tupon_enter (f := 31) (args := #[.int .i64 262144]) (by simp [go_sem]) rfl ?_
      exact (point_at 262144 g.w (by decide) (by decide)).mono fun e w' ⟨he, hB⟩ => ⟨_, he, hB, rfl⟩
    · refine ob_plain [] rfl rfl fun aa g h => ?_
      refine tupon_enter (f := 31) (args := #[.int .i64 327680]) (by simp [go_sem]) rfl ?_
      exact (point_at 327680 g.w (by decide) (by decide)).mono fun e w' ⟨he, hB⟩ => ⟨_, he, hB, rfl⟩
    · refine ob_plain [66, 67] rfl rfl fun aa g h => ?_
      obtain ⟨_, yy0, rfl⟩ := seen_in rfl h.1
      have ee0 := getD_of yy0
      obtain ⟨_, yy1, rfl⟩ := seen_in rfl h.2.1
      have ee1 := getD_of yy1
      exact tupon_value (v := .slice (some ⟨g.w.heap.size, 0, none⟩) 2 2) (w1 := g.w.alloc (.cells #[.int .i64 262144, .int .i64 262144, .int .i64 327680, .int .i64 327680] 28)) (by simp [go_sem, ee0, yy0, ee1, yy1]) ((Below.refl _ _).alloc (Nat.le_refl _) _) ⟨_, rfl, rx_blk (n := 2) (l := [(262144, 262144), (327680, 327680)]) encB_len (World.alloc_heap_new g.w _) rfl rfl (by decide)⟩
    · refine ob_plain [65, 68] rfl rfl fun aa g h => ?_
      obtain ⟨_, yy0, rfl⟩ := seen_in rfl h.1
      have ee0 := getD_of yy0
      obtain ⟨_, yy1, ⟨X68, rfl, hv68⟩⟩ := seen_in rfl h.2.1
      have ee1 := getD_of yy1
      refine tupon_enter (f := 15) (args := #[.slice p5 2 c5, .slice (some ⟨X68, 0, none⟩) 2 2]) (by simp [go_sem, ee0, yy0, ee1, yy1]) rfl ?_
      exact (sbox_self _ _ [(262144, 262144), (327680, 327680)] 2 g.w (VL.out.grow g.h) hv68 rfl).mono fun e w' ⟨he, hB⟩ => ⟨_, he, hB, rfl⟩
    · refine ob_plain [69] rfl rfl fun aa g h => ?_
      obtain ⟨_, yy0, rfl⟩ := seen_in rfl h.1
      have ee0 := getD_of yy0
      exact tupon_value (v := .bool true) (by simp [go_sem, ee0, yy0]) (Below.refl _ _) rfl
    · refine ob_gtrue [3] _ true 70 rfl rfl rfl rfl (fun v w h => h) fun aa g h => ?_
      have yy0 := seen_out (v := .pointer (some ⟨w1.heap.size, 0, none⟩)) rfl rfl h.1
      have ee0 := getD_of yy0
      exact tupon_value (v := .agg #[.int .i64 2, .slice p1 4 c1, .slice p2 2 c2]) (by simp [go_sem, ee0, yy0, kc0 g, kc1 g, kc2 g]) (Below.refl _ _) rfl
    · refine ob_gtrue [71] _ true 70 rfl rfl rfl rfl (fun v w h => h) fun aa g h => ?_
      obtain ⟨_, yy0, rfl⟩ := seen_in rfl h.1
      have ee0 := getD_of yy0
      refine tupon_enter (f := 24) (args := #[.agg #[.int .i64 2, .slice p1 4 c1, .slice p2 2 c2]]) (by simp [go_sem, ee0, yy0]) rfl ?_
      exact (dec_at 2 _ _ [⟨2, 1, 0, 0, 0⟩, ⟨9, 0, 0, 0, 0⟩, ⟨3, 0, 0, 0, 0⟩, ⟨7, 1, 2, 0, 0⟩] [1, 3] _ g.w (IC.out.grow g.h) (PC.out.grow g.h) (by decide) san_dec).mono fun e w' ⟨u9, he, hv, hB⟩ => ⟨_, he, hB, hv⟩
    · refine ob_gtrue [2] _ true 70 rfl rfl rfl rfl (fun v w h => h) fun aa g h => ?_
      have yy0 := seen_out (v := .pointer (some ⟨w.heap.size + 1 + 1 + 1 + 1 + 1, 0, none⟩)) rfl rfl h.1
      have ee0 := getD_of yy0
      exact tupon_value (v := .pointer (some ⟨w.heap.size + 1 + 1 + 1 + 1 + 1, 1, none⟩)) (by simp [go_sem, ee0, yy0]) (Below.refl _ _) rfl
    · refine ob_gtrue [73] _ true 70 rfl rfl rfl rfl (fun v w h => h) fun aa g h => ?_
      obtain ⟨_, yy0, rfl⟩ := seen_in rfl h.1
      have ee0 := getD_of yy0
      exact tupon_value (v := .slice (some ⟨w.heap.size + 1 + 1 + 1 + 1, 0, none⟩) 2 2) (by simp [go_sem, ee0, yy0, s1 g]) (Below.refl _ _) rfl
    · refine ob_gtrue [72, 74] _ true 70 rfl rfl rfl rfl (fun v w h => h) fun aa g h => ?_
      obtain ⟨z72, yy0, hv72⟩ := seen_in rfl h.1
      have ee0 := getD_of yy0
      obtain ⟨_, yy1, rfl⟩ := seen_in rfl h.2.1
      have ee1 := getD_of yy1
      refine tupon_enter (f := 25) (args := #[z72, .slice (some ⟨w.heap.size + 1 + 1 + 1 + 1, 0, none⟩) 2 2]) (by simp [go_sem, ee0, yy0, ee1, yy1]) rfl ?_
      exact (samerows_ok _ _ _ g.w hv72 (RWH.out.grow grows_nxo g.h)).mono fun e w' ⟨he, hB⟩ => ⟨_, he, hB, rfl⟩
    · refine ob_plain [70, 75] rfl rfl fun aa g h => ?_
      obtain ⟨_, yy0, rfl⟩ := seen_in rfl h.1
      have ee0 := getD_of yy0
      obtain ⟨_, yy1, rfl⟩ := seen_in rfl h.2.1
      have ee1 := getD_of yy1
      exact tupon_value (v := .bool true) (by simp [go_sem, ee0, yy0, ee1, yy1]) (Below.refl _ _) rfl
    · refine ob_plain [76] rfl rfl fun aa g h => ?_
      obtain ⟨_, yy0, rfl⟩ := seen_in rfl h.1
      have ee0 := getD_of yy0
      exact tupon_value (v := .bool true) (by simp [go_sem, ee0, yy0]) (Below.refl _ _) rfl
    · refine ob_gtrue [7] _ true 77 rfl rfl rfl rfl (fun v w h => h) fun aa g h => ?_
      have yy0 := seen_out (v := .pointer (some ⟨w6.heap.size, 0, none⟩)) rfl rfl h.1
      have ee0 := getD_of yy0
      exact tupon_value (v := .agg #[.int .i64 1, .slice p3 2 c3, .slice p4 1 c4]) (by simp [go_sem, ee0, yy0, ke0 g, ke1 g, ke2 g]) (Below.refl _ _) rfl
    · refine ob_gtrue [] _ true 77 rfl rfl rfl rfl (fun v w h => h) fun aa g h => ?_
      refine tupon_enter (f := 31) (args := #[.int .i64 5]) (by simp [go_sem]) rfl ?_
      exact (point_at 5 g.w (by decide) (by decide)).mono fun e w' ⟨he, hB⟩ => ⟨_, he, hB, rfl⟩
    · refine ob_gtrue [79] _ true 77 rfl rfl rfl rfl (fun v w h => h) fun aa g h => ?_
      obtain ⟨_, yy0, rfl⟩ := seen_in rfl h.1
      have ee0 := getD_of yy0
      exact tupon_value (v := .agg #[.int .i64 1, .int .i64 0, .int .i64 0, .int .i64 5, .int .i64 5]) (by simp [go_sem, ee0, yy0]) (Below.refl _ _) rfl
    · refine ob_gtrue [] _ true 77 rfl rfl rfl rfl (fun v w h => h) fun aa g h => ?_
      exact tupon_value (v := .agg #[.int .i64 7, .int .i64 0, .int .i64 0, .int .i64 0, .int .i64 0]) (by simp [go_sem]) (Below.refl _ _) rfl
    · refine ob_gtrue [80, 81] _ true 77 rfl rfl rfl rfl (fun v w h => h) fun aa g h => ?_
      obtain ⟨_, yy0, rfl⟩ := seen_in rfl h.1
      have ee0 := getD_of yy0
      obtain ⟨_, yy1, rfl⟩ := seen_in rfl h.2.1
      have ee1 := getD_of yy1
      exact tupon_value (v := .slice (some ⟨g.w.heap.size, 0, none⟩) 2 2) (w1 := g.w.alloc (.cells #[.int .i64 1, .int .i64 0, .int .i64 0, .int .i64 5, .int .i64 5, .int .i64 7, .int .i64 0, .int .i64 0, .int .i64 0, .int .i64 0] 59)) (by simp [go_sem, ee0, yy0, ee1, yy1]) ((Below.refl _ _).alloc (Nat.le_refl _) _) ⟨_, rfl, rx_blk (n := 2) (l := [⟨1, 0, 0, 5, 5⟩, ⟨7, 0, 0, 0, 0⟩]) encI_len (World.alloc_heap_new g.w _) rfl rfl (by decide)⟩
    · refine ob_gtrue [] _ true 77 rfl rfl rfl rfl (fun v w h => h) fun aa g h => ?_
      exact tupon_value (v := .slice (some ⟨g.w.heap.size, 0, none⟩) 1 1) (w1 := g.w.alloc (.cells #[.int .i64 1] 3)) (by simp [go_sem]) ((Below.refl _ _).alloc (Nat.le_refl _) _) ⟨_, rfl, rx_blk (n := 1) (enc := enc1) (l := [1]) (fun _ => rfl) (World.alloc_heap_new g.w _) rfl rfl (by decide)⟩
    · refine ob_gtrue [82, 83] _ true 77 rfl rfl rfl rfl (fun v w h => h) fun aa g h => ?_
      obtain ⟨_, yy0, ⟨X82, rfl, hv82⟩⟩ := seen_in rfl h.1
      have ee0 := getD_of yy0
      obtain ⟨_, yy1, ⟨X83, rfl, hv83⟩⟩ := seen_in rfl h.2.1
      have ee1 := getD_of yy1
      exact tupon_value (v := .agg #[.int .i64 1, .slice (some ⟨X82, 0, none⟩) 2 2, .slice (some ⟨X83, 0, none⟩) 1 1]) (by simp [go_sem, ee0, yy0, ee1, yy1]) (Below.refl _ _) ⟨_, _, rfl, hv82, hv83⟩
    · refine ob_gtrue [78, 84] _ true 77 rfl rfl rfl rfl (fun v w h => h) fun aa g h => ?_
      obtain ⟨_, yy0, rfl⟩ := seen_in rfl h.1
      have ee0 := getD_of yy0
      obtain ⟨_, yy1, ⟨X84, Y84, rfl, hi84, hp84⟩⟩ := seen_in rfl h.2.1
      have ee1 := getD_of yy1
      refine tupon_enter (f := 26) (args := #[.agg #[.int .i64 1, .slice p3 2 c3, .slice p4 1 c4], .agg #[.int .i64 1, .slice (some ⟨X84, 0, none⟩) 2 2, .slice (some ⟨Y84, 0, none⟩) 1 1]]) (by simp [go_sem, ee0, yy0, ee1, yy1]) rfl ?_
      exact (tsame_ok 1 _ _ _ _ [⟨1, 0, 0, 5, 5⟩, ⟨7, 0, 0, 0, 0⟩] [1] g.w (IE.out.grow g.h) (PE.out.grow g.h) hi84 hp84).mono fun e w' ⟨he, hB⟩ => ⟨_, he, hB, rfl⟩
    · refine ob_plain [77, 85] rfl rfl fun aa g h => ?_
      obtain ⟨_, yy0, rfl⟩ := seen_in rfl h.1
      have ee0 := getD_of yy0
      obtain ⟨_, yy1, rfl⟩ := seen_in rfl h.2.1
      have ee1 := getD_of yy1
      exact tupon_value (v := .bool true) (by simp [go_sem, ee0, yy0, ee1, yy1]) (Below.refl _ _) rfl
    · refine ob_plain [86] rfl rfl fun aa g h => ?_
      obtain ⟨_, yy0, rfl⟩ := seen_in rfl h.1
      have ee0 := getD_of yy0
      exact tupon_value (v := .bool true) (by simp [go_sem, ee0, yy0]) (Below.refl _ _) rfl
    · refine ob_gtrue [8] _ true 87 rfl rfl rfl rfl (fun v w h => h) fun aa g h => ?_
      have yy0 := seen_out (v := .slice (some ⟨bq, oq, none⟩) 1 cr') rfl rfl h.1
      have ee0 := getD_of yy0
      exact tupon_value (v := .slice (some ⟨bq, oq, none⟩) 1 cr') (by simp [go_sem, ee0, yy0]) (Below.refl _ _) rfl
    · refine ob_gtrue [88] _ true 87 rfl rfl rfl rfl (fun v w h => h) fun aa g h => ?_
      obtain ⟨_, yy0, rfl⟩ := seen_in rfl h.1
      have ee0 := getD_of yy0
      exact tupon_value (v := .pointer (some ⟨bq, oq, none⟩)) (by simp [go_sem, ee0, yy0]) (Below.refl _ _) rfl
    · refine ob_gtrue [89] _ true 87 rfl rfl rfl rfl (fun v w h => h) fun aa g h => ?_
      obtain ⟨_, yy0, rfl⟩ := seen_in rfl h.1
      have ee0 := getD_of yy0
      exact tupon_value (v := .agg #[.int .i64 (-2147483648), .int .i64 2147483648]) (by simp [go_sem, ee0, yy0, r0 g, r1 g]) (Below.refl _ _) rfl
    · refine ob_gtrue [90] _ true 87 rfl rfl rfl rfl (fun v w h => h) fun aa g h => ?_
      obtain ⟨_, yy0, rfl⟩ := seen_in rfl h.1
      have ee0 := getD_of yy0
      refine tupon_enter (f := 32) (args := #[.agg #[.int .i64 (-2147483648), .int .i64 2147483648]]) (by simp [go_sem, ee0, yy0]) rfl ?_
      exact (r2ent_yes g.w).mono fun e w' ⟨he, hB⟩ => ⟨_, he, hB, rfl⟩
    · refine ob_plain [87, 91] rfl rfl fun aa g h => ?_
      obtain ⟨_, yy0, rfl⟩ := seen_in rfl h.1
      have ee0 := getD_of yy0
      obtain ⟨_, yy1, rfl⟩ := seen_in rfl h.2.1
      have ee1 := getD_of yy1
      exact tupon_value (v := .bool true) (by simp [go_sem, ee0, yy0, ee1, yy1]) (Below.refl _ _) rfl
    · refine ob_plain [92] rfl rfl fun aa g h => ?_
      obtain ⟨_, yy0, rfl⟩ := seen_in rfl h.1
      have ee0 := getD_of yy0
      exact tupon_value (v := .bool true) (by simp [go_sem, ee0, yy0]) (Below.refl _ _) rfl
    · refine ob_gtrue [3] _ true 93 rfl rfl rfl rfl (fun v w h => h) fun aa g h => ?_
      have yy0 := seen_out (v := .pointer (some ⟨w1.heap.size, 0, none⟩)) rfl rfl h.1
      have ee0 := getD_of yy0
      exact tupon_value (v := .agg #[.int .i64 2, .slice p1 4 c1, .slice p2 2 c2]) (by simp [go_sem, ee0, yy0, kc0 g, kc1 g, kc2 g]) (Below.refl _ _) rfl
    · refine ob_gtrue [94] _ true 93 rfl rfl rfl rfl (fun v w h => h) fun aa g h => ?_
      obtain ⟨_, yy0, rfl⟩ := seen_in rfl h.1
      have ee0 := getD_of yy0
      refine tupon_enter (f := 27) (args := #[.agg #[.int .i64 2, .slice p1 4 c1, .slice p2 2 c2]]) (by simp [go_sem, ee0, yy0]) rfl ?_
      exact (valid_at 2 _ _ [⟨2, 1, 0, 0, 0⟩, ⟨9, 0, 0, 0, 0⟩, ⟨3, 0, 0, 0, 0⟩, ⟨7, 1, 2, 0, 0⟩] [1, 3] true g.w (IC.out.grow g.h) (PC.out.grow g.h) (by decide)).mono fun e w' ⟨he, hB⟩ => ⟨_, he, hB, rfl⟩
    · refine ob_plain [93, 95] rfl rfl fun aa g h => ?_
      obtain ⟨_, yy0, rfl⟩ := seen_in rfl h.1
      have ee0 := getD_of yy0
      obtain ⟨_, yy1, rfl⟩ := seen_in rfl h.2.1
      have ee1 := getD_of yy1
      exact tupon_value (v := .bool true) (by simp [go_sem, ee0, yy0, ee1, yy1]) (Below.refl _ _) rfl
    · refine ob_plain [96] rfl rfl fun aa g h => ?_
      obtain ⟨_, yy0, rfl⟩ := seen_in rfl h.1
      have ee0 := getD_of yy0
      exact tupon_value (v := .bool true) (by simp [go_sem, ee0, yy0]) (Below.refl _ _) rfl
    · refine ob_gtrue [6] _ true 97 rfl rfl rfl rfl (fun v w h => h) fun aa g h => ?_
      have yy0 := seen_out (v := .pointer (some ⟨w5.heap.size + 1 + 1, 0, none⟩)) rfl rfl h.1
      have ee0 := getD_of yy0
      exact tupon_value (v := .agg #[.int .i64 1, .slice (some ⟨w5.heap.size, 0, none⟩) 4 4, .slice (some ⟨w5.heap.size + 1, 0, none⟩) 1 1]) (by simp [go_sem, ee0, yy0, kd0 g, kd1 g, kd2 g]) (Below.refl _ _) rfl
    · refine ob_gtrue [98] _ true 97 rfl rfl rfl rfl (fun v w h => h) fun aa g h => ?_
      obtain ⟨_, yy0, rfl⟩ := seen_in rfl h.1
      have ee0 := getD_of yy0
      refine tupon_enter (f := 27) (args := #[.agg #[.int .i64 1, .slice (some ⟨w5.heap.size, 0, none⟩) 4 4, .slice (some ⟨w5.heap.size + 1, 0, none⟩) 1 1]]) (by simp [go_sem, ee0, yy0]) rfl ?_
      exact (valid_at 1 _ _ [⟨3, 0, 0, 0, 0⟩, ⟨1, 0, 0, 5, 5⟩, ⟨1, 0, 0, 5, 5⟩, ⟨7, 2, 1, 0, 0⟩] [3] true g.w (ID.out.grow g.h) (PD.out.grow g.h) (by decide)).mono fun e w' ⟨he, hB⟩ => ⟨_, he, hB, rfl⟩
    · refine ob_plain [97, 99] rfl rfl fun aa g h => ?_
      obtain ⟨_, yy0, rfl⟩ := seen_in rfl h.1
      have ee0 := getD_of yy0
      obtain ⟨_, yy1, rfl⟩ := seen_in rfl h.2.1
      have ee1 := getD_of yy1
      exact tupon_value (v := .bool true) (by simp [go_sem, ee0, yy0, ee1, yy1]) (Below.refl _ _) rfl
    · refine ob_plain [100] rfl rfl fun aa g h => ?_
      obtain ⟨_, yy0, rfl⟩ := seen_in rfl h.1
      have ee0 := getD_of yy0
      exact tupon_value (v := .bool true) (by simp [go_sem, ee0, yy0]) (Below.refl _ _) rfl
    · refine ob_gtrue [] _ true 101 rfl rfl rfl rfl (fun v w h => h) fun aa g h => ?_
      exact tupon_value (v := .agg #[.int .i64 0, .slice none 0 0, .slice none 0 0]) (by simp [go_sem]) (Below.refl _ _) rfl
    · refine ob_gtrue [102] _ true 101 rfl rfl rfl rfl (fun v w h => h) fun aa g h => ?_
      obtain ⟨_, yy0, rfl⟩ := seen_in rfl h.1
      have ee0 := getD_of yy0
      refine tupon_enter (f := 27) (args := #[.agg #[.int .i64 0, .slice none 0 0, .slice none 0 0]]) (by simp [go_sem, ee0, yy0]) rfl ?_
      exact (valid_at 0 _ _ [] [] false g.w (Rx.nil _ _ _) (Rx.nil _ _ _) (by decide)).mono fun e w' ⟨he, hB⟩ => ⟨_, he, hB, rfl⟩
    · refine ob_gtrue [103] _ true 101 rfl rfl rfl rfl (fun v w h => h) fun aa g h => ?_
      obtain ⟨_, yy0, rfl⟩ := seen_in rfl h.1
      have ee0 := getD_of yy0
      exact tupon_value (v := .bool true) (by simp [go_sem, ee0, yy0]) (Below.refl _ _) rfl
    · refine ob_plain [101, 104] rfl rfl fun aa g h => ?_
      obtain ⟨_, yy0, rfl⟩ := seen_in rfl h.1
      have ee0 := getD_of yy0
      obtain ⟨_, yy1, rfl⟩ := seen_in rfl h.2.1
      have ee1 := getD_of yy1
      exact tupon_value (v := .bool true) (by simp [go_sem, ee0, yy0, ee1, yy1]) (Below.refl _ _) rfl
    · refine ob_plain [105] rfl rfl fun aa g h => ?_
      obtain ⟨_, yy0, rfl⟩ := seen_in rfl h.1
      have ee0 := getD_of yy0
      exact tupon_value (v := .bool true) (by simp [go_sem, ee0, yy0]) (Below.refl _ _) rfl
    · refine ob_gtrue [] _ true 106 rfl rfl rfl rfl (fun v w h => h) fun aa g h => ?_
      exact tupon_value (v := .agg #[.int .i64 4, .int .i64 0, .int .i64 0, .int .i64 0, .int .i64 0]) (by simp [go_sem]) (Below.refl _ _) rfl
    · refine ob_gtrue [107] _ true 106 rfl rfl rfl rfl (fun v w h => h) fun aa g h => ?_
      obtain ⟨_, yy0, rfl⟩ := seen_in rfl h.1
      have ee0 := getD_of yy0
      exact tupon_value (v := .slice (some ⟨g.w.heap.size, 0, none⟩) 1 1) (w1 := g.w.alloc (.cells #[.int .i64 4, .int .i64 0, .int .i64 0, .int .i64 0, .int .i64 0] 59)) (by simp [go_sem, ee0, yy0]) ((Below.refl _ _).alloc (Nat.le_refl _) _) ⟨_, rfl, rx_blk (n := 1) (l := [⟨4, 0, 0, 0, 0⟩]) encI_len (World.alloc_heap_new g.w _) rfl rfl (by decide)⟩
    · refine ob_gtrue [] _ true 106 rfl rfl rfl rfl (fun v w h => h) fun aa g h => ?_
      exact tupon_value (v := .slice (some ⟨g.w.heap.size, 0, none⟩) 1 1) (w1 := g.w.alloc (.cells #[.int .i64 0] 3)) (by simp [go_sem]) ((Below.refl _ _).alloc (Nat.le_refl _) _) ⟨_, rfl, rx_blk (n := 1) (enc := enc1) (l := [0]) (fun _ => rfl) (World.alloc_heap_new g.w _) rfl rfl (by decide)⟩
    · refine ob_gtrue [108, 109] _ true 106 rfl rfl rfl rfl (fun v w h => h) fun aa g h => ?_
      obtain ⟨_, yy0, ⟨X108, rfl, hv108⟩⟩ := seen_in rfl h.1
      have ee0 := getD_of yy0
      obtain ⟨_, yy1, ⟨X109, rfl, hv109⟩⟩ := seen_in rfl h.2.1
      have ee1 := getD_of yy1
      exact tupon_value (v := .agg #[.int .i64 1, .slice (some ⟨X108, 0, none⟩) 1 1, .slice (some ⟨X109, 0, none⟩) 1 1]) (by simp [go_sem, ee0, yy0, ee1, yy1]) (Below.refl _ _) ⟨_, _, rfl, hv108, hv109⟩
    · refine ob_gtrue [110] _ true 106 rfl rfl rfl rfl (fun v w h => h) fun aa g h => ?_
      obtain ⟨_, yy0, ⟨X110, Y110, rfl, hi110, hp110⟩⟩ := seen_in rfl h.1
      have ee0 := getD_of yy0
      refine tupon_enter (f := 27) (args := #[.agg #[.int .i64 1, .slice (some ⟨X110, 0, none⟩) 1 1, .slice (some ⟨Y110, 0, none⟩) 1 1]]) (by simp [go_sem, ee0, yy0]) rfl ?_
      exact (valid_at 1 _ _ [⟨4, 0, 0, 0, 0⟩] [0] false g.w hi110 hp110 (by decide)).mono fun e w' ⟨he, hB⟩ => ⟨_, he, hB, rfl⟩
    · refine ob_gtrue [111] _ true 106 rfl rfl rfl rfl (fun v w h => h) fun aa g h => ?_
      obtain ⟨_, yy0, rfl⟩ := seen_in rfl h.1
      have ee0 := getD_of yy0
      exact tupon_value (v := .bool true) (by simp [go_sem, ee0, yy0]) (Below.refl _ _) rfl
    · refine ob_plain [106, 112] rfl rfl fun aa g h => ?_
      obtain ⟨_, yy0, rfl⟩ := seen_in rfl h.1
      have ee0 := getD_of yy0
      obtain ⟨_, yy1, rfl⟩ := seen_in rfl h.2.1
      have ee1 := getD_of yy1
      exact tupon_value (v := .bool true) (by simp [go_sem, ee0, yy0, ee1, yy1]) (Below.refl _ _) rfl
    · refine ob_plain [113] rfl rfl fun aa g h => ?_
      obtain ⟨_, yy0, rfl⟩ := seen_in rfl h.1
      have ee0 := getD_of yy0
      exact tupon_value (v := .bool true) (by simp [go_sem, ee0, yy0]) (Below.refl _ _) rfl
    · refine ob_gtrue [] _ true 114 rfl rfl rfl rfl (fun v w h => h) fun aa g h => ?_
      exact tupon_value (v := .agg #[.int .i64 2, .int .i64 1, .int .i64 0, .int .i64 0, .int .i64 0]) (by simp [go_sem]) (Below.refl _ _) rfl
    · refine ob_gtrue [115] _ true 114 rfl rfl rfl rfl (fun v w h => h) fun aa g h => ?_
      obtain ⟨_, yy0, rfl⟩ := seen_in rfl h.1
      have ee0 := getD_of yy0
      exact tupon_value (v := .slice (some ⟨g.w.heap.size, 0, none⟩) 1 1) (w1 := g.w.alloc (.cells #[.int .i64 2, .int .i64 1, .int .i64 0, .int .i64 0, .int .i64 0] 59)) (by simp [go_sem, ee0, yy0]) ((Below.refl _ _).alloc (Nat.le_refl _) _) ⟨_, rfl, rx_blk (n := 1) (l := [⟨2, 1, 0, 0, 0⟩]) encI_len (World.alloc_heap_new g.w _) rfl rfl (by decide)⟩
    · refine ob_gtrue [] _ true 114 rfl rfl rfl rfl (fun v w h => h) fun aa g h => ?_
      exact tupon_value (v := .slice (some ⟨g.w.heap.size, 0, none⟩) 1 1) (w1 := g.w.alloc (.cells #[.int .i64 0] 3)) (by simp [go_sem]) ((Below.refl _ _).alloc (Nat.le_refl _) _) ⟨_, rfl, rx_blk (n := 1) (enc := enc1) (l := [0]) (fun _ => rfl) (World.alloc_heap_new g.w _) rfl rfl (by decide)⟩
    · refine ob_gtrue [116, 117] _ true 114 rfl rfl rfl rfl (fun v w h => h) fun aa g h => ?_
      obtain ⟨_, yy0, ⟨X116, rfl, hv116⟩⟩ := seen_in rfl h.1
      have ee0 := getD_of yy0
      obtain ⟨_, yy1, ⟨X117, rfl, hv117⟩⟩ := seen_in rfl h.2.1
      have ee1 := getD_of yy1
      exact tupon_value (v := .agg #[.int .i64 1, .slice (some ⟨X116, 0, none⟩) 1 1, .slice (some ⟨X117, 0, none⟩) 1 1]) (by simp [go_sem, ee0, yy0, ee1, yy1]) (Below.refl _ _) ⟨_, _, rfl, hv116, hv117⟩
    · refine ob_gtrue [118] _ true 114 rfl rfl rfl rfl (fun v w h => h) fun aa g h => ?_
      obtain ⟨_, yy0, ⟨X118, Y118, rfl, hi118, hp118⟩⟩ := seen_in rfl h.1
      have ee0 := getD_of yy0
      refine tupon_enter (f := 27) (args := #[.agg #[.int .i64 1, .slice (some ⟨X118, 0, none⟩) 1 1, .slice (some ⟨Y118, 0, none⟩) 1 1]]) (by simp [go_sem, ee0, yy0]) rfl ?_
      exact (valid_at 1 _ _ [⟨2, 1, 0, 0, 0⟩] [0] false g.w hi118 hp118 (by decide)).mono fun e w' ⟨he, hB⟩ => ⟨_, he, hB, rfl⟩
    · refine ob_gtrue [119] _ true 114 rfl rfl rfl rfl (fun v w h => h) fun aa g h => ?_
      obtain ⟨_, yy0, rfl⟩ := seen_in rfl h.1
      have ee0 := getD_of yy0
      exact tupon_value (v := .bool true) (by simp [go_sem, ee0, yy0]) (Below.refl _ _) rfl
    · refine ob_plain [114, 120] rfl rfl fun aa g h => ?_
      obtain ⟨_, yy0, rfl⟩ := seen_in rfl h.1
      have ee0 := getD_of yy0
      obtain ⟨_, yy1, rfl⟩ := seen_in rfl h.2.1
      have ee1 := getD_of yy1
      exact tupon_value (v := .bool true) (by simp [go_sem, ee0, yy0, ee1, yy1]) (Below.refl _ _) rfl
    · refine ob_plain [121] rfl rfl fun aa g h => ?_
      obtain ⟨_, yy0, rfl⟩ := seen_in rfl h.1
      have ee0 := getD_of yy0
      exact tupon_value (v := .bool true) (by simp [go_sem, ee0, yy0]) (Below.refl _ _) rfl
    · refine ob_gtrue [] _ true 122 rfl rfl rfl rfl (fun v w h => h) fun aa g h => ?_
      refine tupon_enter (f := 33) (args := #[]) (by simp [go_sem]) rfl ?_
      exact (one_ok g.w).mono fun e w' ⟨he, hB⟩ => ⟨_, he, hB, rfl⟩
    · refine ob_gtrue [] _ true 122 rfl rfl rfl rfl (fun v w h => h) fun aa g h => ?_
      exact tupon_value (v := .agg #[.int .i64 4, .int .i64 0, .int .i64 0, .int .i64 0, .int .i64 0]) (by simp [go_sem]) (Below.refl _ _) rfl
    · refine ob_gtrue [123, 124] _ true 122 rfl rfl rfl rfl (fun v w h => h) fun aa g h => ?_
      obtain ⟨_, yy0, rfl⟩ := seen_in rfl h.1
      have ee0 := getD_of yy0
      obtain ⟨_, yy1, rfl⟩ := seen_in rfl h.2.1
      have ee1 := getD_of yy1
      exact tupon_value (v := .slice (some ⟨g.w.heap.size, 0, none⟩) 2 2) (w1 := g.w.alloc (.cells #[.int .i64 1, .int .i64 0, .int .i64 0, .int .i64 65536, .int .i64 65536, .int .i64 4, .int .i64 0, .int .i64 0, .int .i64 0, .int .i64 0] 59)) (by simp [go_sem, ee0, yy0, ee1, yy1]) ((Below.refl _ _).alloc (Nat.le_refl _) _) ⟨_, rfl, rx_blk (n := 2) (l := [⟨1, 0, 0, 65536, 65536⟩, ⟨4, 0, 0, 0, 0⟩]) encI_len (World.alloc_heap_new g.w _) rfl rfl (by decide)⟩
    · refine ob_gtrue [] _ true 122 rfl rfl rfl rfl (fun v w h => h) fun aa g h => ?_
      exact tupon_value (v := .slice (some ⟨g.w.heap.size, 0, none⟩) 1 1) (w1 := g.w.alloc (.cells #[.int .i64 1] 3)) (by simp [go_sem]) ((Below.refl _ _).alloc (Nat.le_refl _) _) ⟨_, rfl, rx_blk (n := 1) (enc := enc1) (l := [1]) (fun _ => rfl) (World.alloc_heap_new g.w _) rfl rfl (by decide)⟩
    · refine ob_gtrue [125, 126] _ true 122 rfl rfl rfl rfl (fun v w h => h) fun aa g h => ?_
      obtain ⟨_, yy0, ⟨X125, rfl, hv125⟩⟩ := seen_in rfl h.1
      have ee0 := getD_of yy0
      obtain ⟨_, yy1, ⟨X126, rfl, hv126⟩⟩ := seen_in rfl h.2.1
      have ee1 := getD_of yy1
      exact tupon_value (v := .agg #[.int .i64 1, .slice (some ⟨X125, 0, none⟩) 2 2, .slice (some ⟨X126, 0, none⟩) 1 1]) (by simp [go_sem, ee0, yy0, ee1, yy1]) (Below.refl _ _) ⟨_, _, rfl, hv125, hv126⟩
    · refine ob_gtrue [127] _ true 122 rfl rfl rfl rfl (fun v w h => h) fun aa g h => ?_
      obtain ⟨_, yy0, ⟨X127, Y127, rfl, hi127, hp127⟩⟩ := seen_in rfl h.1
      have ee0 := getD_of yy0
      refine tupon_enter (f := 24) (args := #[.agg #[.int .i64 1, .slice (some ⟨X127, 0, none⟩) 2 2, .slice (some ⟨Y127, 0, none⟩) 1 1]]) (by simp [go_sem, ee0, yy0]) rfl ?_
      exact (dec_at 1 _ _ [⟨1, 0, 0, 65536, 65536⟩, ⟨4, 0, 0, 0, 0⟩] [1] _ g.w hi127 hp127 (by decide) san_one).mono fun e w' ⟨u9, he, hv, hB⟩ => ⟨_, he, hB, hv⟩
    · refine ob_gtrue [] _ true 122 rfl rfl rfl rfl (fun v w h => h) fun aa g h => ?_
      exact tupon_value (v := .agg #[.int .i64 4, .int .i64 0, .int .i64 0, .int .i64 0]) (by simp [go_sem]) (Below.refl _ _) rfl
    · refine ob_gtrue [] _ true 122 rfl rfl rfl rfl (fun v w h => h) fun aa g h => ?_
      refine tupon_enter (f := 34) (args := #[.int .i64 1]) (by simp [go_sem]) rfl ?_
      exact (num_ok g.w).mono fun e w' ⟨he, hB⟩ => ⟨_, he, hB, rfl⟩
    · refine ob_gtrue [129, 130] _ true 122 rfl rfl rfl rfl (fun v w h => h) fun aa g h => ?_
      obtain ⟨_, yy0, rfl⟩ := seen_in rfl h.1
      have ee0 := getD_of yy0
      obtain ⟨_, yy1, rfl⟩ := seen_in rfl h.2.1
      have ee1 := getD_of yy1
      exact tupon_value (v := .slice (some ⟨g.w.heap.size, 0, none⟩) 2 2) (w1 := g.w.alloc (.cells #[.int .i64 4, .int .i64 0, .int .i64 0, .int .i64 0, .int .i64 1, .int .i64 0, .int .i64 65536, .int .i64 65536] 62)) (by simp [go_sem, ee0, yy0, ee1, yy1]) ((Below.refl _ _).alloc (Nat.le_refl _) _) ⟨_, rfl, nxo_blk (n := 2) (l := [⟨4, 0, 0, 0⟩, ⟨1, 0, 65536, 65536⟩]) (World.alloc_heap_new g.w _) rfl rfl (by decide)⟩
    · refine ob_gtrue [131] _ true 122 rfl rfl rfl rfl (fun v w h => h) fun aa g h => ?_
      obtain ⟨_, yy0, ⟨X131, rfl, hv131⟩⟩ := seen_in rfl h.1
      have ee0 := getD_of yy0
      exact tupon_value (v := .slice (some ⟨g.w.heap.size, 0, none⟩) 1 1) (w1 := g.w.alloc (.cells #[.slice (some ⟨X131, 0, none⟩) 2 2] 54)) (by simp [go_sem, ee0, yy0]) ((Below.refl _ _).alloc (Nat.le_refl _) _) ⟨_, rfl, lx_one g.w hv131⟩
    · refine ob_gtrue [128, 132] _ true 122 rfl rfl rfl rfl (fun v w h => h) fun aa g h => ?_
      obtain ⟨z128, yy0, hv128⟩ := seen_in rfl h.1
      have ee0 := getD_of yy0
      obtain ⟨_, yy1, ⟨X132, rfl, hv132⟩⟩ := seen_in rfl h.2.1
      have ee1 := getD_of yy1
      refine tupon_enter (f := 25) (args := #[z128, .slice (some ⟨X132, 0, none⟩) 1 1]) (by simp [go_sem, ee0, yy0, ee1, yy1]) rfl ?_
      exact (samerows_ok _ _ _ g.w hv128 hv132).mono fun e w' ⟨he, hB⟩ => ⟨_, he, hB, rfl⟩
    · refine ob_plain [122, 133] rfl rfl fun aa g h => ?_
      obtain ⟨_, yy0, rfl⟩ := seen_in rfl h.1
      have ee0 := getD_of yy0
      obtain ⟨_, yy1, rfl⟩ := seen_in rfl h.2.1
      have ee1 := getD_of yy1
      exact tupon_value (v := .bool true) (by simp [go_sem, ee0, yy0, ee1, yy1]) (Below.refl _ _) rfl
    · refine ob_plain [134] rfl rfl fun aa g h => ?_
      obtain ⟨_, yy0, rfl⟩ := seen_in rfl h.1
      have ee0 := getD_of yy0
      exact tupon_value (v := .bool true) (by simp [go_sem, ee0, yy0]) (Below.refl _ _) rfl
  rintro wE hB _ rfl _ rfl _ rfl _ ⟨X68, rfl, hv68⟩ _ rfl _ rfl _ rfl z72 hv72 _ rfl _ rfl _ rfl _ rfl _ rfl _ rfl _ rfl _ rfl _ rfl _ ⟨X82, rfl, hv82⟩ _ ⟨X83, rfl, hv83⟩ _ ⟨X84, Y84, rfl, hi84, hp84⟩ _ rfl _ rfl _ rfl _ rfl _ rfl _ rfl _ rfl _ rfl _ rfl _ rfl _ rfl _ rfl _ rfl _ rfl _ rfl _ rfl _ rfl _ rfl _ rfl _ rfl _ rfl _ rfl _ rfl _ ⟨X108, rfl, hv108⟩ _ ⟨X109, rfl, hv109⟩ _ ⟨X110, Y110, rfl, hi110, hp110⟩ _ rfl _ rfl _ rfl _ rfl _ rfl _ ⟨X116, rfl, hv116⟩ _ ⟨X117, rfl, hv117⟩ _ ⟨X118, Y118, rfl, hi118, hp118⟩ _ rfl _ rfl _ rfl _ rfl _ rfl _ rfl _ ⟨X125, rfl, hv125⟩ _ ⟨X126, rfl, hv126⟩ _ ⟨X127, Y127, rfl, hi127, hp127⟩ z128 hv128 _ rfl _ rfl _ ⟨X131, rfl, hv131⟩ _ ⟨X132, rfl, hv132⟩ _ rfl _ rfl _ rfl
  simp only [Act.put, List.setIfInBounds_toArray, List.set_cons_succ, List.set_cons_zero, List.filterMap_nil, finP]
  have HT := Lib.hid (below_then HW.out hB)
  go_wp2_with (fail)
  go_ret
  exact ⟨rfl, HT.out⟩
end Go.Proofs.Ytajddejeglhbhaa

namespace Go.Proofs.Ytajddejeglhbhaa
open Go.ChangeShapes Go.WideShapes Go.ChangeAt Go.RowKit
set_option linter.unusedVariables false
set_option linter.unusedSimpArgs false
set_option maxRecDepth 100000
section
variable {H : Type} {enc : TypeId × Value → H} {w : World} {base : Nat} {spare : Nat → Bool} {held : Bool}
theorem wf64t {x : Int} (h : (Lit.int .i64 x).wf = true) : -9223372036854775808 ≤ x ∧ x ≤ 9223372036854775807 := by
  have a := bounds_i64 h
  exact ⟨a.1, by have := a.2; omega⟩
theorem cell_blkT {w : World} {a : Addr} {v : Value} (h : w.cell? a = some v) : a.block < w.heap.size ∧ a.spot = none := by
  unfold World.cell? at h
  split at h
  · rename_i hh
    refine ⟨(Array.getElem?_eq_some_iff.1 hh).1, ?_⟩
    split at h
    · cases h
    · rename_i hs
      simpa using hs
  · cases h
theorem add_spot (a : Addr) (n : Nat) (h : a.spot = none) : a.add n = ⟨a.block, a.off + n, none⟩ := by
  obtain ⟨b, o, s⟩ := a
  simp only at h
  subst h
  by_cases hz : n = 0 <;> simp [Addr.add, hz]
/-- A slice of records, out of its elements. -/
theorem rx_of {α : Type} {en : α → List Value} {sz : Nat} {P : α → Prop} (d : α) {a : Addr} {len cap : Nat} (hl : len ≤ maxLen) (hen : ∀ x, ∃ u, (en x)[0]? = some u)
    (hel : ∀ i, i < len → ∃ x : α, P x ∧ ∀ j u, (en x)[j]? = some u → w.cell? (a.add (i * sz + j)) = some u) : ∃ l : List α, Rx en sz w (.slice (some a) len cap) l ∧ ∀ x ∈ l, P x := by
  have hex : ∃ f : Nat → α, ∀ i, i < len → P (f i) ∧ ∀ j u, (en (f i))[j]? = some u → w.cell? (a.add (i * sz + j)) = some u :=
    ⟨fun i => if h : i < len then (hel i h).choose else d, fun i h => by simp only [h, dif_pos]; exact (hel i h).choose_spec⟩
  obtain ⟨f, hf⟩ := hex
  refine ⟨(List.range len).map f, ⟨by simp; omega, some a, cap, by simp, fun k x hx => ?_⟩, fun p hp => ?_⟩
  · have hk : k < len := by
      have := (List.getElem?_eq_some_iff.1 hx).1
      simpa using this
    obtain rfl : f k = x := by
      rw [List.getElem?_map, List.getElem?_range hk] at hx
      simpa using hx
    obtain ⟨hv, hcell⟩ := hf k hk
    obtain ⟨u0, hu0⟩ := hen (f 0)
    have q0 := (hf 0 (by omega)).2 0 _ hu0
    have hs : a.spot = none := by
      have := (cell_blkT q0).2
      simpa [Addr.add] using this
    have hb : a.block < w.heap.size := by
      have := (cell_blkT q0).1
      rw [add_spot a _ hs] at this
      exact this
    refine ⟨a.block, a.off, ?_, hb, fun j u hu => ?_⟩
    · obtain ⟨b, o, sp⟩ := a
      simp only at hs
      subst hs
      rfl
    · have q := hcell j u hu
      rw [add_spot a _ hs] at q
      rw [Nat.add_assoc]
      exact q
  · obtain ⟨i, hi', rfl⟩ := List.mem_map.1 hp
    exact (hf i (List.mem_range.1 hi')).1
/-- A slice of instructions, as an argument is read. -/
theorem ix_read {fuel : Nat} {c : Value} {y : DataW H × List MemPlace} (h : DataW.trod enc Try.prog w base spare held fuel 22 [c] = some y) : ∃ l : List Is, Ix w c l ∧ ∀ x ∈ l, IW x := by
  have h2 : Try.prog.cellsOf 59 = 5 := by kernel_rfl
  have h1 : Try.prog.cellsOf 3 = 1 := by kernel_rfl
  have h3 : Try.prog.cellsOf 28 = 2 := by kernel_rfl
  have h4 : Try.prog.cellsOf 2 = 1 := by kernel_rfl
  rcases Go.Deep.open_slice Try.underlying22 h with ⟨hc, _⟩ | ⟨a, len, cap, m, n, D, Pl, hc, _, hl, hm, hmm, _, hi⟩
  · obtain rfl : c = .slice none 0 0 := by simpa using hc
    exact ⟨[], Rx.nil _ _ _, fun p hp => by simp at hp⟩
  · obtain rfl : c = .slice (some a) len cap := by simpa using hc
    rw [h2] at hi
    have hlm : len ≤ m := by rw [hmm]; split <;> omega
    refine rx_of (en := encI) (sz := 5) (P := IW) ⟨0, 0, 0, 0, 0⟩ (by omega) (fun x => ⟨_, rfl⟩) (fun i hil => ?_)
    obtain ⟨cs, hcs, ht⟩ := hi i (by omega)
    obtain ⟨_, hcl, hat⟩ := World.cells?_some hcs
    obtain ⟨xs, n', _, _, _, hlen, hg⟩ := DataW.trod_struct Try.underlying59 ht
    match cs, hcl with
    | [c0, c1, c2, c3, c4], _ =>
      match xs, hlen with
      | [y0, y1, y2, y3], _ =>
        have g0 := hg 0 _ rfl
        have g1 := hg 1 _ rfl
        have g2 := hg 2 _ rfl
        have g3 := hg 3 _ rfl
        simp [Value.cells, h1, h3, h4] at g0 g1 g2 g3
        obtain ⟨k0, e0, _, w0⟩ := DataW.trod_int Try.underlying3 g0
        obtain ⟨k1, e1, _, w1⟩ := DataW.trod_int Try.underlying3 g1
        obtain ⟨k2, e2, _, w2⟩ := DataW.trod_int Try.underlying3 g2
        obtain ⟨y0', y1', n'', _, _, t0, t1⟩ := trod_struct2 Try.underlying28 g3
        obtain ⟨k3, e3, _, w3⟩ := DataW.trod_int Try.underlying2 t0
        obtain ⟨k4, e4, _, w4⟩ := DataW.trod_int Try.underlying2 t1
        simp [h4] at e0 e1 e2 e3 e4
        subst e0 e1 e2 e3 e4
        refine ⟨⟨k0, k1, k2, k3, k4⟩, ⟨wf64t w0, wf64t w1, wf64t w2, wf64t w3, wf64t w4⟩, fun j u hu => ?_⟩
        have hj : j < 5 := by
          have := (List.getElem?_eq_some_iff.1 hu).1
          simpa [encI] using this
        have q := hat j (by omega)
        rw [Go.Deep.add_add] at q
        rw [q, ← hu]
        rfl
/-- A slice of ints, as an argument is read. -/
theorem px_read {fuel : Nat} {c : Value} {y : DataW H × List MemPlace} (h : DataW.trod enc Try.prog w base spare held fuel 23 [c] = some y) : ∃ l : List Int, Px w c l ∧ ∀ x ∈ l, W64 x := by
  have h1 : Try.prog.cellsOf 3 = 1 := by kernel_rfl
  rcases Go.Deep.open_slice Try.underlying23 h with ⟨hc, _⟩ | ⟨a, len, cap, m, n, D, Pl, hc, _, hl, hm, hmm, _, hi⟩
  · obtain rfl : c = .slice none 0 0 := by simpa using hc
    exact ⟨[], Rx.nil _ _ _, fun p hp => by simp at hp⟩
  · obtain rfl : c = .slice (some a) len cap := by simpa using hc
    rw [h1] at hi
    have hlm : len ≤ m := by rw [hmm]; split <;> omega
    refine rx_of (en := enc1) (sz := 1) (P := W64) 0 (by omega) (fun x => ⟨_, rfl⟩) (fun i hil => ?_)
    obtain ⟨cs, hcs, ht⟩ := hi i (by omega)
    obtain ⟨_, hcl, hat⟩ := World.cells?_some hcs
    match cs, hcl with
    | [c0], _ =>
      obtain ⟨k0, e0, _, w0⟩ := DataW.trod_int Try.underlying3 ht
      simp at e0
      subst e0
      refine ⟨k0, wf64t w0, fun j u hu => ?_⟩
      have hj : j < 1 := by
        have := (List.getElem?_eq_some_iff.1 hu).1
        simpa [enc1] using this
      have q := hat j (by omega)
      rw [Go.Deep.add_add] at q
      rw [q, ← hu]
      rfl
/-- A slice of intervals, as an argument is read. -/
theorem vx_read {fuel : Nat} {c : Value} {y : DataW H × List MemPlace} (h : DataW.trod enc Try.prog w base spare held fuel 26 [c] = some y) : ∃ l : List (Int × Int), Vx w c l ∧ ∀ p ∈ l, W64 p.1 ∧ W64 p.2 := by
  have h3 : Try.prog.cellsOf 28 = 2 := by kernel_rfl
  have h4 : Try.prog.cellsOf 2 = 1 := by kernel_rfl
  rcases Go.Deep.open_slice Try.underlying26 h with ⟨hc, _⟩ | ⟨a, len, cap, m, n, D, Pl, hc, _, hl, hm, hmm, _, hi⟩
  · obtain rfl : c = .slice none 0 0 := by simpa using hc
    exact ⟨[], Rx.nil _ _ _, fun p hp => by simp at hp⟩
  · obtain rfl : c = .slice (some a) len cap := by simpa using hc
    rw [h3] at hi
    have hlm : len ≤ m := by rw [hmm]; split <;> omega
    refine rx_of (en := encB) (sz := 2) (P := fun p : Int × Int => W64 p.1 ∧ W64 p.2) (0, 0) (by omega) (fun x => ⟨_, rfl⟩) (fun i hil => ?_)
    obtain ⟨cs, hcs, ht⟩ := hi i (by omega)
    obtain ⟨_, hcl, hat⟩ := World.cells?_some hcs
    obtain ⟨y0', y1', n'', _, _, t0, t1⟩ := trod_struct2 Try.underlying28 ht
    match cs, hcl with
    | [c3, c4], _ =>
      obtain ⟨k3, e3, _, w3⟩ := DataW.trod_int Try.underlying2 t0
      obtain ⟨k4, e4, _, w4⟩ := DataW.trod_int Try.underlying2 t1
      simp [h4] at e3 e4
      subst e3 e4
      refine ⟨(k3, k4), ⟨wf64t w3, wf64t w4⟩, fun j u hu => ?_⟩
      have hj : j < 2 := by
        have := (List.getElem?_eq_some_iff.1 hu).1
        simpa [encB] using this
      have q := hat j (by omega)
      rw [Go.Deep.add_add] at q
      rw [q, ← hu]
      rfl
theorem open_query8 {r : Reach} {b0 : Nat} {v : Value} {d : DataW H} {p : List MemPlace} (hv : Value.okWide Try.prog w r b0 30 v) (h : DataW.Trod enc Try.prog w base spare held 30 v d p) :
    ∃ (vL vO vX : Value) (n lo hi : Int) (L : List Is) (out : List Int) (X : List (Int × Int)), v = .agg #[.int .i64 n, vL, vO, vX, .int .i64 lo, .int .i64 hi] ∧ (Ix w vL L ∧ ∀ x ∈ L, IW x) ∧ (Px w vO out ∧ ∀ x ∈ out, W64 x) ∧ (Vx w vX X ∧ ∀ q ∈ X, W64 q.1 ∧ W64 q.2) ∧ W64 n ∧ W64 lo ∧ W64 hi := by
  have k1 : Try.prog.cellsOf 26 = 1 := by kernel_rfl
  have k2 : Try.prog.cellsOf 2 = 1 := by kernel_rfl
  have k3 : Try.prog.cellsOf 3 = 1 := by kernel_rfl
  have k4 : Try.prog.cellsOf 25 = 3 := by kernel_rfl
  have k5 : Try.prog.cellsOf 28 = 2 := by kernel_rfl
  have k6 : Try.prog.cellsOf 22 = 1 := by kernel_rfl
  have k7 : Try.prog.cellsOf 23 = 1 := by kernel_rfl
  obtain ⟨cs, rfl, hsz⟩ := okWide_struct Try.underlying30 hv
  obtain ⟨l⟩ := cs
  match l, hsz.trans (show Try.prog.cellsOf 30 = 6 by kernel_rfl) with
  | [c0, c1, c2, c3, c4, c5], _ =>
    obtain ⟨fuel, hf⟩ := h
    obtain ⟨xs, n, _, _, _, hlen, hg⟩ := DataW.trod_struct Try.underlying30 hf
    match xs, hlen with
    | [y0, y1, y2], _ =>
      have g0 := hg 0 _ rfl
      have g1 := hg 1 _ rfl
      have g2 := hg 2 _ rfl
      simp [Value.cells, k1, k4, k5] at g0 g1 g2
      obtain ⟨zs, n', _, _, _, hlen', hg'⟩ := DataW.trod_struct Try.underlying25 g0
      match zs, hlen' with
      | [z0, z1, z2], _ =>
        have j0 := hg' 0 _ rfl
        have j1 := hg' 1 _ rfl
        have j2 := hg' 2 _ rfl
        simp [k3, k6, k7] at j0 j1 j2
        obtain ⟨k, e0, _, w0⟩ := DataW.trod_int Try.underlying3 j0
        obtain ⟨L, a1, a2⟩ := ix_read j1
        obtain ⟨out, b1, b2⟩ := px_read j2
        obtain ⟨X, x1, x2⟩ := vx_read g1
        obtain ⟨y0', y1', n'', _, _, t0, t1⟩ := trod_struct2 Try.underlying28 g2
        obtain ⟨p3, e3, _, w3⟩ := DataW.trod_int Try.underlying2 t0
        obtain ⟨p4, e4, _, w4⟩ := DataW.trod_int Try.underlying2 t1
        simp [k2] at e0 e3 e4
        subst e0 e3 e4
        exact ⟨c1, c2, c3, k, p3, p4, L, out, X, rfl, ⟨a1, a2⟩, ⟨b1, b2⟩, ⟨x1, x2⟩, wf64t w0, wf64t w3, wf64t w4⟩
theorem open_insts8 {r : Reach} {b0 : Nat} {v : Value} {d : DataW H} {p : List MemPlace} (hv : Value.okWide Try.prog w r b0 22 v) (h : DataW.Trod enc Try.prog w base spare held 22 v d p) :
    ∃ l : List Is, Ix w v l ∧ ∀ x ∈ l, IW x := by
  obtain ⟨a, len, cap, rfl⟩ := okWide_slice Try.underlying22 hv
  obtain ⟨fuel, hf⟩ := h
  exact ix_read hf
end
end Go.Proofs.Ytajddejeglhbhaa
