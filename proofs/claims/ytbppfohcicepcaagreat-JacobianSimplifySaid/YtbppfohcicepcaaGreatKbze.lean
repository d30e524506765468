/-
  Md7 Jn Jo
-/
import Derived.Test.YtbppfohcicepcaaGreatKba
import Derived.Test.YtbppfohcicepcaaGreatKbt
import Derived.Test.YtbppfohcicepcaaGreatKbw
import Derived.Test.YtbppfohcicepcaaGreatKbx
import Derived.Test.YtbppfohcicepcaaGreatKbzb
import Derived.Test.YtbppfohcicepcaaGreatKbzd
namespace Go.Proofs.YtbppfohcicepcaaGreat
open Go.ChangeShapes Go.WideShapes Go.ChangeAt Go.RowKit
set_option linter.unusedVariables false
set_option linter.unusedSimpArgs false
set_option maxRecDepth 100000
attribute [local irreducible] Calls
theorem nx_take {w : World} {p : Option Addr} {c m k : Nat} {l : List Nd} (h : Nx w (.slice p k c) l) (hm : m ≤ l.length) : Nx w (.slice p m c) (l.take m) := by
  obtain ⟨h1, p', c', e, h2⟩ := h
  cases e
  refine ⟨by rw [List.length_take]; omega, p, c, by rw [List.length_take, Nat.min_eq_left hm], fun i x hx => ?_⟩
  rw [List.getElem?_take] at hx
  split at hx
  · exact h2 i x hx
  · cases hx
end Go.Proofs.YtbppfohcicepcaaGreat
namespace Go.Proofs.YtbppfohcicepcaaGreat
open Go.ChangeShapes Go.WideShapes Go.ChangeAt Go.RowKit
set_option linter.unusedVariables false
set_option linter.unusedSimpArgs false
set_option maxRecDepth 100000
attribute [local irreducible] Calls
set_option maxHeartbeats 8000000 in
theorem Made7w_ok (n : Int) (hn : 1 ≤ n ∧ n ≤ 6) (most : Nat) (hm : most ≤ 1000) (vr : Value) (Rw : List Nd) (w : World) (hr : NxC w vr Rw) :
    Calls Tryz.prog 11 #[vr, .int .i64 most, .int .i64 n] w fun e w' => ∃ v t, e = .returned v ∧ w'.ownsRow w.heap.size 63 4 v (pre t).length (cr encN (pre t)) ∧ EV n t ∧ (pre t).length < 32 ∧ Below w.heap.size w w' := by
  obtain ⟨hnx, p, c, rfl, hlc, hpc⟩ := hr
  have hsm := hnx.1
  unfold maxLen at hsm
  obtain ⟨k, hk⟩ : ∃ k, min Rw.length most = k := ⟨_, rfl⟩
  have hk1 : k ≤ Rw.length := by omega
  have hk2 : k ≤ most := by omega
  have hkl : (Rw.take k).length = k := by rw [List.length_take]; omega
  have hmin : min (Rw.length : Int) (most : Int) = (k : Int) := by omega
  have hE : Below w.heap.size w (w.alloc (.cells #[.slice p k c, .int .i64 n] 66)) := allocs_below [.cells #[.slice p k c, .int .i64 n] 66] w
  have hblk := World.alloc_heap_new w (.cells #[.slice p k c, .int .i64 n] 66)
  have hbu : Bu w w.heap.size n (Rw.take k) (w.alloc (.cells #[.slice p k c, .int .i64 n] 66)) := ⟨Nat.le_refl _, hE, p, c, by rw [hkl]; exact hblk, by rw [hkl]; exact nx_take hnx hk1, by omega⟩
  have KB := Lib.hid (show Calls Tryz.prog 40 #[.pointer (some ⟨w.heap.size, 0, none⟩), .int .i64 5] (w.alloc (.cells #[.slice p k c, .int .i64 n] 66)) _ from build_ok w w.heap.size n hn most hm 5 (by decide) (by decide) (Rw.take k) _ (by rw [hkl]; exact hk2) hbu)
  have HE := Lib.hid hE
  have hk3 : (k : Int) ≤ c := by omega
  have i1 : (0 : Int) ≤ k := by omega
  clear hE hblk hbu hnx hkl
  rcases Nat.lt_or_ge most Rw.length with hle | hle
  · obtain rfl : most = k := by omega
    have j1 : ¬ (Rw.length : Int) ≤ most := by omega
    have j2 : (most : Int) < Rw.length := by omega
    have j3 : most < Rw.length := by omega
    clear hmin hk hk1 hk2 hle
    go_enter Tryz.func11, Tryz.ntmps11
    go_wp2_with (fail)
    refine KB.out.mono ?_
    rintro e w1 ⟨v, rfl, ⟨t, R', hO, hEV, hlen, hB', hR'⟩, hg⟩
    have hB := Below.grown HE.out hg HE.out.size (fun i e => by cases e; exact Nat.le_refl _)
    have HO := Lib.hid (own_base7 hO HE.out.size)
    have HB := Lib.hid hB
    have HEV := Lib.hid hEV
    have HLN := Lib.hid hlen
    clear hO hEV hlen hB' hR' hg hB
    go_wp2_with (fail)
    go_ret
    exact ⟨v, t, rfl, HO.out, HEV.out, HLN.out, HB.out⟩
  · obtain rfl : Rw.length = k := by omega
    have j1 : (Rw.length : Int) ≤ most := by omega
    have j2 : ¬ (most : Int) < Rw.length := by omega
    have j3 : ¬ (most < Rw.length) := by omega
    clear hmin hk hk1 hk2 hle
    go_enter Tryz.func11, Tryz.ntmps11
    go_wp2_with (fail)
    refine KB.out.mono ?_
    rintro e w1 ⟨v, rfl, ⟨t, R', hO, hEV, hlen, hB', hR'⟩, hg⟩
    have hB := Below.grown HE.out hg HE.out.size (fun i e => by cases e; exact Nat.le_refl _)
    have HO := Lib.hid (own_base7 hO HE.out.size)
    have HB := Lib.hid hB
    have HEV := Lib.hid hEV
    have HLN := Lib.hid hlen
    clear hO hEV hlen hB' hR' hg hB
    go_wp2_with (fail)
    go_ret
    exact ⟨v, t, rfl, HO.out, HEV.out, HLN.out, HB.out⟩
theorem ev_mem {N : Int} : ∀ {e : Ex}, EV N e → ∀ y ∈ pre e, vnB N y = true
  | .e0 x, h, y, hy => by simp [pre] at hy; subst hy; exact h.2
  | .e1 x a, h, y, hy => by
    simp [pre] at hy
    rcases hy with rfl | hy
    · exact h.1.2
    · exact ev_mem h.2 y hy
  | .e2 x a b, h, y, hy => by
    simp [pre] at hy
    rcases hy with rfl | hy | hy
    · exact h.1.2
    · exact ev_mem h.2.1 y hy
    · exact ev_mem h.2.2 y hy
theorem dim_ok (vF vE vX : Value) (lo hi n : Int) (w : World) (h0 : 0 ≤ n) (h1 : n ≤ 255) : Calls Tryz.prog 9 #[.agg #[vF, vE, vX, .int .i64 lo, .int .i64 hi, .int .u8 n]] w fun e w' => e = .returned (.int .i64 (1 + n % 3)) ∧ Below w.heap.size w w' := by
  go_enter Tryz.func9, Tryz.ntmps9
  go_wp2_with (fail)
  go_ret
  exact ⟨rfl, (Below.refl _ _).alloc (Nat.le_refl _) _⟩
theorem is0_ok (v : Value) (w : World) (hv : NxC w v (pre (pt 0))) : Calls Tryz.prog 58 #[v, .int .i64 0] w fun e w' => e = .returned (.bool true) ∧ Below w.heap.size w w' := by
  obtain ⟨p, c, rfl⟩ := hv.1.cut
  obtain ⟨b, o, rfl, hb, rd⟩ := nd_rd (i := 0) hv.1 (x := ⟨1, 0, 0, 0⟩) rfl
  obtain ⟨x0, x1, x2, x3⟩ := rd ⟨w, Below.refl _ _⟩
  simp only [Nat.zero_mul, Nat.add_zero] at x0 x1 x2 x3
  clear rd hv
  change Calls Tryz.prog 58 #[.slice (some ⟨b, o, none⟩) 1 c, .int .i64 0] w _
  go_enter Tryz.func58, Tryz.ntmps58
  go_wp2_with (fail)
  go_ret
  exact ⟨rfl, Below.refl _ _⟩
section
variable {H : Type} {enc : TypeId × Value → H} {w : World} {base : Nat} {spare : Nat → Bool} {held : Bool}
theorem nx_read {fuel : Nat} {c : Value} {y : DataW H × List MemPlace} (h : DataW.trod enc Tryz.prog w base spare held fuel 23 [c] = some y) : ∃ l : List Nd, NxC w c l ∧ ∀ x ∈ l, NW x := by
  have h2 : Tryz.prog.cellsOf 63 = 4 := by kernel_rfl
  have h1 : Tryz.prog.cellsOf 3 = 1 := by kernel_rfl
  have h3 : Tryz.prog.cellsOf 26 = 2 := by kernel_rfl
  have h4 : Tryz.prog.cellsOf 2 = 1 := by kernel_rfl
  rcases Go.Deep.open_slice Tryz.underlying23 h with ⟨hc, _⟩ | ⟨a, len, cap, m, n, D, Pl, hc, _, hl, hm, hmm, _, hi⟩
  · obtain rfl : c = .slice none 0 0 := by simpa using hc
    exact ⟨[], ⟨Rx.nil _ _ _, none, 0, rfl, Nat.le_refl _, fun _ => rfl⟩, fun p hp => by simp at hp⟩
  · obtain rfl : c = .slice (some a) len cap := by simpa using hc
    rw [h2] at hi
    have hlm : len ≤ m := by rw [hmm]; split <;> omega
    obtain ⟨l, hl1, hl2⟩ := rx_of (w := w) (a := a) (len := len) (cap := cap) (en := encN) (sz := 4) (P := NW) ⟨0, 0, 0, 0⟩ (by omega) (fun x => ⟨_, rfl⟩) (fun i hil => by
      obtain ⟨cs, hcs, ht⟩ := hi i (by omega)
      obtain ⟨_, hcl, hat⟩ := World.cells?_some hcs
      obtain ⟨xs, n', _, _, _, hlen, hg⟩ := DataW.trod_struct Tryz.underlying63 ht
      match cs, hcl with
      | [c0, c1, c2, c3], _ =>
        match xs, hlen with
        | [y0, y1, y2], _ =>
          have g0 := hg 0 _ rfl
          have g1 := hg 1 _ rfl
          have g2 := hg 2 _ rfl
          simp [h1, h3] at g0 g1 g2
          obtain ⟨k0, e0, _, w0⟩ := DataW.trod_int Tryz.underlying3 g0
          obtain ⟨k1, e1, _, w1⟩ := DataW.trod_int Tryz.underlying3 g1
          obtain ⟨zs, n2, _, _, _, hlen2, hg2⟩ := DataW.trod_struct Tryz.underlying26 g2
          match zs, hlen2 with
          | [z0, z1], _ =>
            have j0 := hg2 0 _ rfl
            have j1 := hg2 1 _ rfl
            simp [h4] at j0 j1
            obtain ⟨k2, e2, _, w2⟩ := DataW.trod_int Tryz.underlying2 j0
            obtain ⟨k3, e3, _, w3⟩ := DataW.trod_int Tryz.underlying2 j1
            simp at e0 e1 e2 e3
            subst e0 e1 e2 e3
            refine ⟨⟨k0, k1, k2, k3⟩, ⟨wf64t w0, wf64t w1, wf64t w2, wf64t w3⟩, fun j u hj => ?_⟩
            have hk : j < 4 := by have := (List.getElem?_eq_some_iff.1 hj).1; simpa [encN] using this
            have q := hat j (by omega)
            rw [Go.Deep.add_add] at q
            rw [q, ← hj]
            rfl)
    obtain ⟨_, p', c', e', _⟩ := id hl1
    simp only [Value.slice.injEq] at e'
    have hlen : l.length = len := e'.2.1.symm
    exact ⟨l, ⟨hl1, _, _, by rw [hlen], by omega, fun h => by cases h⟩, hl2⟩
theorem open_input10 {r : Reach} {b0 : Nat} {v : Value} {d : DataW H} {p : List MemPlace} (hv : Value.okWide Tryz.prog w r b0 28 v) (h : DataW.Trod enc Tryz.prog w base spare held 28 v d p) :
    ∃ (vF vE vX : Value) (lo hi n : Int) (l : List Nd) (X : List (Int × Int)), v = .agg #[vF, vE, vX, .int .i64 lo, .int .i64 hi, .int .u8 n] ∧ (NxC w vE l ∧ ∀ x ∈ l, NW x) ∧ (Vx w vX X ∧ ∀ q ∈ X, W64 q.1 ∧ W64 q.2) ∧ (W64 lo ∧ W64 hi) ∧ 0 ≤ n ∧ n ≤ 255 := by
  have k1 : Tryz.prog.cellsOf 24 = 1 := by kernel_rfl
  have k2 : Tryz.prog.cellsOf 2 = 1 := by kernel_rfl
  have k3 : Tryz.prog.cellsOf 5 = 1 := by kernel_rfl
  have k4 : Tryz.prog.cellsOf 23 = 1 := by kernel_rfl
  have k5 : Tryz.prog.cellsOf 26 = 2 := by kernel_rfl
  have k6 : Tryz.prog.cellsOf 22 = 1 := by kernel_rfl
  obtain ⟨cs, rfl, hsz⟩ := okWide_struct Tryz.underlying28 hv
  obtain ⟨l⟩ := cs
  match l, hsz.trans (show Tryz.prog.cellsOf 28 = 6 by kernel_rfl) with
  | [c0, c1, c2, c3, c4, c5], _ =>
    obtain ⟨fuel, hf⟩ := h
    obtain ⟨xs, n, _, _, _, hlen, hg⟩ := DataW.trod_struct Tryz.underlying28 hf
    match xs, hlen with
    | [y0, y1, y2, y3, y4], _ =>
      have g1 := hg 1 _ rfl
      have g2 := hg 2 _ rfl
      have g3 := hg 3 _ rfl
      have g4 := hg 4 _ rfl
      simp [Value.cells, k1, k2, k3, k4, k5, k6] at g1 g2 g3 g4
      obtain ⟨L, a1, a2⟩ := nx_read g1
      obtain ⟨X, x1, x2⟩ := vx_read g2
      obtain ⟨zs, n', _, _, _, hlen', hg'⟩ := DataW.trod_struct Tryz.underlying26 g3
      match zs, hlen' with
      | [z0, z1], _ =>
        have j0 := hg' 0 _ rfl
        have j1 := hg' 1 _ rfl
        simp [k2] at j0 j1
        obtain ⟨p3, e3, _, w3⟩ := DataW.trod_int Tryz.underlying2 j0
        obtain ⟨p4, e4, _, w4⟩ := DataW.trod_int Tryz.underlying2 j1
        obtain ⟨p5, e5, _, w5⟩ := DataW.trod_int Tryz.underlying5 g4
        simp at e3 e4 e5
        subst e3 e4 e5
        have hn : 0 ≤ p5 ∧ p5 ≤ 255 := by
          simp [Lit.wf, IntKind.has, IntKind.min, IntKind.max, IntKind.signed, IntKind.bits] at w5
          omega
        exact ⟨c0, c1, c2, p3, p4, p5, L, X, rfl, ⟨a1, a2⟩, ⟨x1, x2⟩, ⟨wf64t w3, wf64t w4⟩, hn.1, hn.2⟩
end
end Go.Proofs.YtbppfohcicepcaaGreat
namespace Go.Proofs.YtbppfohcicepcaaGreat
open Go.ChangeShapes Go.WideShapes Go.ChangeAt Go.RowKit
set_option linter.unusedVariables false
set_option linter.unusedSimpArgs false
set_option maxRecDepth 100000
attribute [local irreducible] Calls
theorem kids_ar {N : Int} {T : Ex} (h : EV N T) : 1 ≤ (rtN T).op ∧ (rtN T).op ≤ 10 ∧ (if (rtN T).op ≤ 3 then 0 else if (rtN T).op ≤ 6 then 1 else 2 : Int) = ((kids T).length : Int) := by
  have hv : ∀ x : Nd, vnB N x = true → 1 ≤ x.op ∧ x.op ≤ 10 := by
    intro x hx
    unfold vnB at hx
    by_cases h1 : x.op = 1
    · omega
    · by_cases h2 : x.op = 2
      · omega
      · rw [if_neg h1, if_neg h2] at hx
        by_cases h3 : 3 ≤ x.op ∧ x.op ≤ 10
        · omega
        · rw [if_neg h3] at hx; cases hx
  cases T with
  | e0 x =>
    obtain ⟨h1, h2⟩ := hv x h.2
    have h3 := h.1
    unfold arI at h3
    refine ⟨h1, h2, ?_⟩
    show (if x.op ≤ 3 then 0 else if x.op ≤ 6 then 1 else 2 : Int) = 0
    split at h3
    · omega
    · split at h3 <;> split <;> omega
  | e1 x a =>
    obtain ⟨h1, h2⟩ := hv x h.1.2
    have h3 := h.1.1
    unfold arI at h3
    refine ⟨h1, h2, ?_⟩
    show (if x.op ≤ 3 then 0 else if x.op ≤ 6 then 1 else 2 : Int) = 1
    split at h3
    · rw [if_neg (by omega), if_pos (by omega)]
    · split at h3 <;> omega
  | e2 x a b =>
    obtain ⟨h1, h2⟩ := hv x h.1.2
    have h3 := h.1.1
    unfold arI at h3
    refine ⟨h1, h2, ?_⟩
    show (if x.op ≤ 3 then 0 else if x.op ≤ 6 then 1 else 2 : Int) = 2
    split at h3
    · omega
    · split at h3
      · rw [if_neg (by omega), if_neg (by omega)]
      · omega
theorem kids_ev {N : Int} : ∀ {T : Ex}, EV N T → ∀ a ∈ kids T, EV N a
  | .e0 _, _, a, ha => by simp [kids] at ha
  | .e1 _ _, h, a, ha => by simp [kids] at ha; subst ha; exact h.2
  | .e2 _ _ _, h, a, ha => by simp [kids] at ha; rcases ha with rfl | rfl; exact h.2.1; exact h.2.2
/-- Where the k-th operand begins, behind the root. -/
def accL (l : List Ex) (k : Nat) : Nat := ((l.take k).flatMap pre).length
theorem accL_succ {l : List Ex} {k : Nat} {a : Ex} (h : l[k]? = some a) : accL l (k + 1) = accL l k + (pre a).length := by
  unfold accL
  rw [List.take_add_one, h]
  simp
theorem accL_drop : ∀ {l : List Ex} {k : Nat} {a : Ex} (R : List Nd), l[k]? = some a → (l.flatMap pre ++ R).drop (accL l k) = pre a ++ ((l.drop (k + 1)).flatMap pre ++ R)
  | x :: l, 0, a, R, h => by cases h; simp [accL]
  | x :: l, k + 1, a, R, h => by
    have ih := accL_drop (l := l) (k := k) R h
    have e : accL (x :: l) (k + 1) = (pre x).length + accL l k := by simp [accL]
    rw [e, List.flatMap_cons, List.append_assoc, ← List.drop_drop, List.drop_left]
    exact ih
theorem accL_le (l : List Ex) (k : Nat) (R : List Nd) : accL l k ≤ (l.flatMap pre ++ R).length := by
  have := List.take_append_drop k l
  unfold accL
  conv => rhs; rw [← this]
  simp only [List.flatMap_append, List.length_append]
  omega
theorem accL_all (l : List Ex) : accL l l.length = (l.flatMap pre).length := by simp [accL]
theorem nxc_drop {w : World} {b o n c k : Nat} {l : List Nd} (h : NxC w (.slice (some ⟨b, o, none⟩) n c) l) (hk : k ≤ n) : NxC w (.slice (some ⟨b, if c - k = 0 then o else o + k * 4, none⟩) (n - k) (c - k)) (l.drop k) := by
  obtain ⟨h1, p, c', e, hc, hp⟩ := h
  simp only [Value.slice.injEq] at e
  obtain ⟨e1, e2, e3⟩ := e
  subst e3
  refine ⟨Rx.drop h1 hk (fun hlt => by rw [if_neg (by omega)]), _, _, by rw [List.length_drop, e2], by rw [List.length_drop]; omega, fun h => by cases h⟩
set_option maxHeartbeats 8000000 in
theorem elen_step (N : Int) (T : Ex) (hT : EV N T) (IH : ∀ a ∈ kids T, ∀ (R : List Nd) (v : Value) (w : World), NxC w v (pre a ++ R) → Calls Tryz.prog 60 #[v] w fun e w' => e = .returned (.int .i64 (pre a).length) ∧ Below w.heap.size w w') :
    ∀ (R : List Nd) (v : Value) (w : World), NxC w v (pre T ++ R) → Calls Tryz.prog 60 #[v] w fun e w' => e = .returned (.int .i64 (pre T).length) ∧ Below w.heap.size w w' := by
  intro R v w hv
  obtain ⟨h1, h10, har⟩ := kids_ar hT
  have hkl := kids_le T
  rw [pre_kids T] at hv ⊢
  obtain ⟨p, c, rfl⟩ := hv.1.cut
  obtain ⟨hnx, p', c', e', hcap, _⟩ := id hv
  simp only [Value.slice.injEq] at e'
  obtain ⟨rfl, _, rfl⟩ := e'
  have hl := hnx.1
  unfold maxLen at hl
  obtain ⟨b, o, hpe, hb, rd⟩ := nd_rd hnx (i := 0) rfl
  subst hpe
  have HR := Lib.hid rd
  have HV := Lib.hid hv
  have HIH := Lib.hid IH
  simp only [List.cons_append, List.length_cons] at hl hcap ⊢
  rw [show (rtN T :: (kids T).flatMap pre ++ R).length = ((kids T).flatMap pre ++ R).length + 1 by simp] at HV
  clear hnx hv IH rd hT
  generalize kids T = l at *
  generalize rtN T = x at *
  obtain ⟨op, n, lo, hi⟩ := x
  dsimp only at h1 h10 har
  have hacc := fun k => accL_le l k R
  have HALL := Lib.hid (accL_all l)
  have hfl : (l.flatMap pre).length ≤ (l.flatMap pre ++ R).length := by simp
  generalize (l.flatMap pre ++ R).length = m at *
  have HA := Lib.hid (fun w => arity7_ok op w h1 h10)
  rw [har] at HA
  obtain ⟨c0, c1, c2, c3⟩ := HR.out ⟨w, Below.refl _ _⟩
  dsimp only [Nat.zero_mul, Nat.add_zero] at c0
  simp only [Nat.zero_mul, Nat.add_zero] at c0
  have hm0 : ((m : Int) + 1 == 0) = false := by rw [beq_eq_false_iff_ne]; omega
  have hk0 : decide ((l.length : Int) < 0) = false := decide_eq_false (by omega)
  go_enter Tryz.func60, Tryz.ntmps60
  go_wp2_with (fail)
  refine (HA.out _).mono ?_
  rintro e w' ⟨rfl, rfl⟩
  go_wp2_with (fail)
  go_loopw [3, 4] (fun a i wr => ∃ k : Nat, i = .int .i64 k ∧ k ≤ l.length ∧ a = .int .i64 (1 + accL l k : Nat) ∧ Hid (Below w.heap.size w wr)) (fun _ i _ => l.length - (intOf i).toNat)
  case atStart => exact ⟨0, rfl, Nat.zero_le _, by simp [accL], Lib.hid (Below.refl _ _)⟩
  case round =>
    obtain ⟨k, rfl, hk, rfl, HB⟩ := hrel
    obtain ⟨d0, _, _, _⟩ := HR.out ⟨wr, HB.out⟩
    dsimp only [Nat.zero_mul, Nat.add_zero] at d0
    simp only [Nat.zero_mul, Nat.add_zero] at d0
    have hak := hacc k
    by_cases hlt : k < l.length
    · obtain ⟨a, ha⟩ : ∃ a, l[k]? = some a := ⟨_, List.getElem?_eq_getElem hlt⟩
      have hs := accL_succ ha
      have hak' := hacc (k + 1)
      have hd := nxc_drop (HV.out) (show 1 + accL l k ≤ m + 1 by omega)
      have he : ((⟨op, n, lo, hi⟩ : Nd) :: l.flatMap pre ++ R).drop (1 + accL l k) = pre a ++ ((l.drop (k + 1)).flatMap pre ++ R) := by
        rw [Nat.add_comm, List.cons_append, List.drop_succ_cons]; exact accL_drop R ha
      have hpa : 1 ≤ (pre a).length := by rw [pre_kids a]; simp
      have hcz : ¬ (c - (1 + accL l k) = 0) := by omega
      rw [he, if_neg hcz] at hd
      have HD := Lib.hid (grows_nxc _ _ _ _ hd HB.out)
      have HMA := Lib.hid (List.mem_of_getElem? ha)
      clear hd he ha
      have hwlt : ((k : Int) < (l.length : Int)) := by omega
      go_wp2_with (fail)
      refine (HA.out _).mono ?_
      rintro e w' ⟨rfl, rfl⟩
      go_wp2_with (fail)
      refine (HIH.out a HMA.out _ _ _ HD.out).mono ?_
      rintro e w' ⟨rfl, hB2⟩
      have HB2 := Lib.hid hB2
      clear hB2
      go_wp2_with (fail)
      go_roundw
      case rel => exact ⟨k + 1, by go_num, by omega, by go_num, Lib.hid (below_then HB.out HB2.out)⟩
      case measure => simp [intOf]; omega
    · obtain rfl : k = l.length := by omega
      go_wp2_with (fail)
      refine (HA.out _).mono ?_
      rintro e w' ⟨rfl, rfl⟩
      go_wp2_with (fail)
      go_ret
      refine ⟨?_, HB.out⟩
      change Ending.returned (.int .i64 (1 + (accL l l.length : Int))) = _
      rw [HALL.out]
      congr 2
      omega
theorem elen_ok (N : Int) : ∀ (T : Ex), EV N T → ∀ (R : List Nd) (v : Value) (w : World), NxC w v (pre T ++ R) → Calls Tryz.prog 60 #[v] w fun e w' => e = .returned (.int .i64 (pre T).length) ∧ Below w.heap.size w w' := by
  intro T
  induction T with
  | e0 x => exact fun h => elen_step N _ h (fun a ha => by simp [kids] at ha)
  | e1 x a ih => exact fun h => elen_step N _ h (fun a' ha => by
      obtain rfl : a' = a := by simpa [kids] using ha
      exact ih h.2)
  | e2 x a b ih ih' => exact fun h => elen_step N _ h (fun a' ha => by
      have ha2 : a' = a ∨ a' = b := by simpa [kids] using ha
      rcases ha2 with e | e
      · rw [e]; exact ih h.2.1
      · rw [e]; exact ih' h.2.2)
end Go.Proofs.YtbppfohcicepcaaGreat
