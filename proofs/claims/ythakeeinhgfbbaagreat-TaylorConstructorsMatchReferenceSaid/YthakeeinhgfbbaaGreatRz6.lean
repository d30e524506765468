/-
  The reference's Add.
  The reference's Power.
  The reference's Mul.
  The reference's Scale and Eval.
-/
import Derived.Test.YthakeeinhgfbbaaGreatRz1
import Derived.Test.YthakeeinhgfbbaaGreatIn
import Derived.Test.YthakeeinhgfbbaaGreatPc
import Derived.Test.YthakeeinhgfbbaaGreatR3
import Derived.Test.YthakeeinhgfbbaaGreatR6
import Derived.Test.YthakeeinhgfbbaaGreatTA
import Derived.Test.YthakeeinhgfbbaaGreatPk5
import Derived.Test.YthakeeinhgfbbaaGreatPredIn
namespace Go.Proofs.YthakeeinhgfbbaaGreat
open Go.ChangeShapes Go.WideShapes Go.ChangeAt Go.RowKit
set_option linter.unusedVariables false
set_option linter.unusedSimpArgs false
set_option maxRecDepth 100000

attribute [local irreducible] Calls
def foldI (l m : List Tm) : List Tm := m.foldl (fun p t => insT t p) l
theorem foldI_snoc {l m : List Tm} {k : Nat} {x : Tm} (hx : m[k]? = some x) : foldI l (m.take (k + 1)) = insT x (foldI l (m.take k)) := by
  unfold foldI
  rw [List.take_add_one, hx, List.foldl_append]
  rfl
def Bdd (A : Int) (l : List Tm) : Prop := ∀ t ∈ l, EV t.2 ∧ -A ≤ t.1 ∧ t.1 ≤ A
theorem ins_bdd {x : Tm} {A B : Int} (hA : 0 ≤ A) (hB : 0 ≤ B) (hx : EV x.2 ∧ -B ≤ x.1 ∧ x.1 ≤ B) : ∀ {l : List Tm}, Bdd A l → Bdd (A + B) (insT x l)
  | [], _, t, ht => by simp [insT] at ht; subst ht; exact ⟨hx.1, by omega, by omega⟩
  | q :: r, h, t, ht => by
    have hq := h q (by simp)
    unfold insT at ht
    split at ht
    · rcases List.mem_cons.1 ht with rfl | ht
      · exact ⟨hq.1, by omega, by omega⟩
      · exact ins_bdd hA hB hx (l := r) (fun t ht => h t (by simp [ht])) t ht
    · split at ht
      · rcases List.mem_cons.1 ht with rfl | ht
        · exact ⟨hx.1, by dsimp only; omega, by dsimp only; omega⟩
        · have := h t (by simp [ht])
          exact ⟨this.1, by omega, by omega⟩
      · rcases List.mem_cons.1 ht with rfl | ht
        · exact ⟨hx.1, by omega, by omega⟩
        · have := h t ht
          exact ⟨this.1, by omega, by omega⟩
theorem bdd_num {l : List Tm} (h : ∀ t ∈ l, TV t ∧ Num t.1) : Bdd 2147483648 l := fun t ht => by
  have := (h t ht).2
  unfold Num at this
  exact ⟨(h t ht).1.1, by omega, by omega⟩
theorem bdd_ts {A : Int} {l : List Tm} (h : Bdd A l) (hA : A < 4611686018427387904) : ∀ t ∈ l, TV t ∧ Small62 t := fun t ht => by
  have := h t ht
  unfold Small62
  exact ⟨⟨this.1, by omega, by omega⟩, by omega, by omega⟩
theorem foldI_len (l m : List Tm) : (foldI l m).length ≤ l.length + m.length := by
  unfold foldI
  induction m generalizing l with
  | nil => simp
  | cons x m ih =>
    rw [List.foldl_cons]
    have h1 := ih (insT x l)
    have h2 := ins_len x l
    rw [List.length_cons]
    omega
set_option maxHeartbeats 16000000 in
theorem radd_ok (b o c : Nat) (v : Value) (l m : List Tm) (w : World) (hu : Tx w (.slice (some ⟨b, o, none⟩) l.length c) l) (hc : l.length ≤ c) (hv : Tx w v m) (hl : ∀ t ∈ l, TV t ∧ Num t.1) (hm : ∀ t ∈ m, TV t ∧ Num t.1) (s1 : l.length ≤ 1000) (s2 : m.length ≤ 1000) :
    Calls Tryz.prog 58 #[.slice (some ⟨b, o, none⟩) l.length c, v] w fun e w' => ∃ u, e = .returned (.tuple #[u, .agg #[.int .i64 (truncP (nzT (foldI l m)) 6 (0, 0)).2.1, .int .i64 (truncP (nzT (foldI l m)) 6 (0, 0)).2.2]]) ∧ Tx w' u (truncP (nzT (foldI l m)) 6 (0, 0)).1 ∧ Below w.heap.size w w' := by
  obtain ⟨R, hR⟩ : ∃ R, truncP (nzT (foldI l m)) 6 (0, 0) = R := ⟨_, rfl⟩
  rw [hR]
  obtain ⟨Rl, n0, n1⟩ := R
  dsimp only
  have HRR := Lib.hid hR
  clear hR
  obtain ⟨p, cv, rfl⟩ := hv.cut
  have HU := Lib.hid hu
  have HV := Lib.hid hv
  have HLN := Lib.hid hl
  have HMN := Lib.hid hm
  have hba : Below w.heap.size w (w.alloc (.cells #[.int .i64 0, .int .i64 0] 24)) := (Below.refl _ _).alloc (Nat.le_refl _) _
  have hI1 : IvC (w.alloc (.cells #[.int .i64 0, .int .i64 0] 24)) w.heap.size (0, 0) := World.alloc_heap_new w _
  have HU1 := Lib.hid (hu.grow hba)
  have HI := Lib.hid hI1
  have HBA := Lib.hid hba
  clear hu hv hl hm hba hI1
  go_enter Tryz.func58, Tryz.ntmps58
  go_wp2_with (fail)
  generalize hW0 : World.alloc w _ = W0 at *
  clear hW0
  go_loopw [6, 7] (fun u i wr => ∃ (k b' o' c' : Nat), u = .slice (some ⟨b', o', none⟩) (foldI l (m.take k)).length c' ∧ (foldI l (m.take k)).length ≤ c' ∧ i = .int .i64 k ∧ k ≤ m.length ∧ Hid (Bdd (2147483648 * ((k : Int) + 1)) (foldI l (m.take k))) ∧ Hid (Tx wr (.slice (some ⟨b', o', none⟩) (foldI l (m.take k)).length c') (foldI l (m.take k))) ∧ ∃ g : Grown W0, wr = g.w) (fun _ i _ => m.length - (intOf i).toNat)
  case atStart => exact ⟨0, b, o, c, rfl, hc, rfl, Nat.zero_le _, Lib.hid (bdd_num HLN.out), HU1, ⟨W0, Below.refl _ _⟩, rfl⟩
  case round =>
    obtain ⟨k, b', o', c', rfl, hc', rfl, hk, HB, HT, g0, rfl⟩ := hrel
    by_cases hlt : k < m.length
    · have i1 : (k : Int) < m.length := by omega
      obtain ⟨t, hx⟩ : ∃ t, m[k]? = some t := ⟨_, List.getElem?_eq_getElem hlt⟩
      have tx := HMN.out t (List.mem_of_getElem? hx)
      have hs := foldI_snoc (l := l) hx
      have hbt := bdd_num HMN.out t (List.mem_of_getElem? hx)
      have hb1 := ins_bdd (x := t) (A := 2147483648 * ((k : Int) + 1)) (B := 2147483648) (by omega) (by decide) hbt HB.out
      rw [← hs] at hb1
      have hfl := foldI_len l (m.take k)
      rw [List.length_take] at hfl
      obtain ⟨ka, a0, a1, a2, a3, a4, a5, rfl⟩ := six_at tx.1
      obtain ⟨b2, o2, hp, hbb, rd⟩ := HV.out.rd7 hx
      subst hp
      obtain ⟨f0, f1, f2, f3, f4, f5, f6⟩ := rd ⟨g0.w, below_then HBA.out g0.h⟩
      dsimp only at f0 f1 f2 f3 f4 f5 f6
      have HIN := Lib.hid (insert_ok b' o' c' (foldI l (m.take k)) (ka, [a0, a1, a2, a3, a4, a5]) g0.w HT.out hc' (bdd_ts HB.out (by omega)) ⟨tx.1, by have := tx.2; unfold Num at this; unfold Small62; omega⟩ (by omega))
      rw [show valT (ka, [a0, a1, a2, a3, a4, a5]) = .agg #[.int .i64 ka, .int .u8 a0, .int .u8 a1, .int .u8 a2, .int .u8 a3, .int .u8 a4, .int .u8 a5] from rfl, ← hs] at HIN
      have HB1 : Hid (Bdd (2147483648 * (((k + 1 : Nat) : Int) + 1)) (foldI l (m.take (k + 1)))) := Lib.hid (by
        have e : 2147483648 * (((k + 1 : Nat) : Int) + 1) = 2147483648 * ((k : Int) + 1) + 2147483648 := by push_cast; omega
        rw [e]
        exact hb1)
      clear hx tx hs hbt hb1 rd hfl
      go_wp2_with (fail)
      refine HIN.out.mono ?_
      rintro e w5 ⟨r, rfl, h1, ⟨b5, o5, n5, c5, rfl, h2⟩, _, h4⟩
      obtain rfl : n5 = (foldI l (m.take (k + 1))).length := by
        obtain ⟨_, _, _, e, _⟩ := h1
        simp only [Value.slice.injEq] at e
        exact e.2.1
      obtain ⟨g5, hg5⟩ : ∃ g : Grown W0, w5 = g.w := grow g0 h4
      have HT5 := Lib.hid h1
      clear h1 h4 f0 f1 f2 f3 f4 f5 f6
      subst hg5
      go_wp2_with (fail)
      exact ⟨⟨k + 1, b5, o5, c5, rfl, h2, by go_num, by omega, HB1, HT5, g5, rfl⟩, by simp [intOf]; omega⟩
    · obtain rfl : k = m.length := by omega
      have i1 : ¬ (m.length : Int) < m.length := by omega
      rw [List.take_length] at HB HT hc' ⊢
      have hfl := foldI_len l m
      have K := Lib.hid (rfin_ok (.slice (some ⟨b', o', none⟩) (foldI l m).length c') (foldI l m) 6 0 0 g0.w HT.out (fun t ht => (bdd_ts HB.out (by omega) t ht).1) (by unfold FB; decide) (by omega))
      rw [show min (6 : Int) 6 = 6 by decide] at K
      rw [HRR.out] at K
      dsimp only at K
      have hI0 := HI.out.grow g0.h
      have hB0 := below_then HBA.out g0.h
      have hls := HI.out.lt
      have hgs := g0.h.size
      go_wp2_with (fail)
      refine K.out.mono ?_
      rintro e w2 ⟨u, rfl, h1, h2, h3⟩
      have hI2 := hI0.grow h3
      have hB2 := below_then hB0 h3
      have c2 : IvC (w2.alloc (.cells #[.int .i64 n0, .int .i64 n1] 24)) w2.heap.size (n0, n1) := World.alloc_heap_new w2 _
      have ha2 : Below w2.heap.size w2 (w2.alloc (.cells #[.int .i64 n0, .int .i64 n1] 24)) := (Below.refl _ _).alloc (Nat.le_refl _) _
      have hI3 := hI2.grow ha2
      have hB3 := below_then hB2 ha2
      have hX3 := h1.grow ha2
      have y0 := c2.c0
      have y1 := c2.c1
      have q0 := hI3.c0
      have q1 := hI3.c1
      have z0 := hI3.frozen 0
      have z1 := hI3.frozen 1
      have hlt5 := hI3.lt
      dsimp only at y0 y1 q0 q1
      clear hI0 hI2 c2 ha2 h1 h3
      go_wp2_with (fail)
      generalize hW2 : World.alloc w2 _ = W2 at *
      go_region
      go_wp2_with (fail)
      refine bodyPost_ret (v := .tuple #[u, .agg #[.int .i64 n0, .int .i64 n1]]) (by simp [results, Tryz.results58, go_sem, q0, q1]) rfl ⟨_, rfl, ?_, ?_⟩
      · exact (hX3.off h2 (by omega) hlt5 _ _).grow ((Below.refl _ _).drew)
      · exact ((hB3.setCell (p := ⟨w.heap.size, 0, none⟩) (Nat.le_refl _) _).setCell (p := ⟨w.heap.size, 1, none⟩) (Nat.le_refl _) _).drew
end Go.Proofs.YthakeeinhgfbbaaGreat

namespace Go.Proofs.YthakeeinhgfbbaaGreat
open Go.ChangeShapes Go.WideShapes Go.ChangeAt Go.RowKit
set_option linter.unusedVariables false
set_option linter.unusedSimpArgs false
set_option maxRecDepth 100000

attribute [local irreducible] Calls
set_option maxHeartbeats 16000000 in
theorem rpow_ok (a b : Int) (hv : VI a b) : ∀ n : Nat, 1 ≤ n → n ≤ 255 → ∀ w : World,
    Calls Tryz.prog 112 #[.agg #[.int .i64 a, .int .i64 b], .int .i64 n] w fun e w' => e = .returned (.agg #[.int .i64 (powX (a, b) n).1, .int .i64 (powX (a, b) n).2]) ∧ Below w.heap.size w w' := by
  intro n
  induction n using Nat.strongRecOn with
  | ind n ih =>
    intro h1 h255 w
    have hvb : VB2 (a, b) := hv
    have hba : Below w.heap.size w ((w.alloc (.cells #[.int .i64 a, .int .i64 b] 24)).alloc (.cells #[.int .i64 0, .int .i64 0] 24)) := ((Below.refl _ _).alloc (Nat.le_refl _) _).alloc (by simp) _
    have hA : IvC ((w.alloc (.cells #[.int .i64 a, .int .i64 b] 24)).alloc (.cells #[.int .i64 0, .int .i64 0] 24)) w.heap.size (a, b) := (Below.heap_alloc _ _ _ (by simp)).trans (World.alloc_heap_new w _)
    have hR : IvC ((w.alloc (.cells #[.int .i64 a, .int .i64 b] 24)).alloc (.cells #[.int .i64 0, .int .i64 0] 24)) (w.heap.size + 1) (0, 0) := by
      have e := World.alloc_heap_new (w.alloc (.cells #[.int .i64 a, .int .i64 b] 24)) (.cells #[.int .i64 0, .int .i64 0] 24)
      rw [World.size_alloc] at e
      exact e
    have fin : ∀ (W : World) (x y : Value), Below w.heap.size w W → Below w.heap.size w ((W.setCell ⟨w.heap.size + 1, 0, none⟩ x).setCell ⟨w.heap.size + 1, 1, none⟩ y) := fun W x y h => (h.setCell (p := ⟨w.heap.size + 1, 0, none⟩) (Nat.le_succ _) _).setCell (p := ⟨w.heap.size + 1, 1, none⟩) (Nat.le_succ _) _
    by_cases hn : n ≤ 1
    · obtain rfl : n = 1 := by omega
      rw [powX_one]
      dsimp only
      have q0 := hR.c0
      have q1 := hR.c1
      have z0 := hR.frozen 0
      have z1 := hR.frozen 1
      have k0 := hA.c0
      have k1 := hA.c1
      dsimp only at q0 q1 k0 k1
      clear ih hn h1 h255 hvb hv
      go_enter Tryz.func112, Tryz.ntmps112
      rw [show ((1 : Nat) : Int) = 1 from rfl]
      go_wp2_with (fail)
      refine bodyPost_ret (v := .agg #[.int .i64 a, .int .i64 b]) (by simp [results, Tryz.results112, go_sem, q0, q1]) rfl ⟨rfl, ?_⟩
      exact ((Below.refl w.heap.size w).alloc (Nat.le_refl _) (.cells #[.int .i64 a, .int .i64 b] 24)).alloc (by simp) (.cells #[.int .i64 a, .int .i64 b] 24)
    · have hi1 : ¬ (n : Int) ≤ 1 := by omega
      by_cases h2 : n % 2 = 0
      · rw [powX_even (a, b) (by omega) h2]
        have IH := Lib.hid (ih (n / 2) (by omega) (by omega) (by omega))
        have ht : (n : Int).tmod 2 = 0 := by rw [Int.tmod_eq_emod_of_nonneg (by omega)]; omega
        have hq : (n : Int).tdiv 2 = ((n / 2 : Nat) : Int) := by rw [Int.tdiv_eq_ediv_of_nonneg (by omega)]; omega
        have hp := powX_vb hvb (n / 2)
        obtain ⟨⟨p0, p1⟩, hpp⟩ : ∃ P, powX (a, b) (n / 2) = P := ⟨_, rfl⟩
        rw [hpp] at IH hp ⊢
        unfold sqI2
        have KS := Lib.hid (fun w => r2square p0 p1 w hp)
        dsimp only at IH KS ⊢
        have k0 := hA.c0
        have k1 := hA.c1
        dsimp only at k0 k1
        have HR := Lib.hid hR
        clear ih h1 hvb hv hpp hp h2 hn hR
        go_enter Tryz.func112, Tryz.ntmps112
        go_wp2_with (fail)
        refine (IH.out _).mono ?_
        rintro e w1 ⟨rfl, j1⟩
        go_wp2_with (fail)
        refine (KS.out _).mono ?_
        rintro e w2 ⟨rfl, j2⟩
        have j12 := j1.trans (j2.mono j1.size)
        have hR2 := HR.out.grow j12
        have hB2 := below_then hba j12
        have q0 := hR2.c0
        have q1 := hR2.c1
        have z0 := hR2.frozen 0
        have z1 := hR2.frozen 1
        dsimp only at q0 q1
        clear k0 k1
        go_wp2_with (fail)
        refine bodyPost_ret (v := .agg #[.int .i64 (sqLo p0 p1), .int .i64 (sqHi p0 p1)]) (by simp [results, Tryz.results112, go_sem, q0, q1]) rfl ⟨rfl, ?_⟩
        exact fin _ _ _ hB2
      · rw [powX_odd (a, b) (by omega) h2]
        have IH := Lib.hid (ih (n - 1) (by omega) (by omega) (by omega))
        have ht : (n : Int).tmod 2 = 1 := by rw [Int.tmod_eq_emod_of_nonneg (by omega)]; omega
        have hq : ((n - 1 : Nat) : Int) = (n : Int) - 1 := by omega
        rw [hq] at IH
        have hp := powX_vb hvb (n - 1)
        obtain ⟨⟨p0, p1⟩, hpp⟩ : ∃ P, powX (a, b) (n - 1) = P := ⟨_, rfl⟩
        rw [hpp] at IH hp ⊢
        unfold mulI2
        have KS := Lib.hid (fun w => r2mul p0 p1 a b w hp hv)
        dsimp only at IH KS ⊢
        obtain ⟨m0, hm0⟩ : ∃ m, mulLo p0 p1 a b = m := ⟨_, rfl⟩
        obtain ⟨m1, hm1⟩ : ∃ m, mulHi p0 p1 a b = m := ⟨_, rfl⟩
        rw [hm0, hm1] at KS ⊢
        have HA := Lib.hid hA
        have HR := Lib.hid hR
        have HBA := Lib.hid hba
        have FIN := Lib.hid fin
        have Wn : IntKind.i64.wrap ((n : Int) - 1) = (n : Int) - 1 := wrap_i64 _ (by omega) (by omega)
        clear ih h1 hvb hv hpp hp h2 hn hR hA hba fin hm0 hm1
        go_enter Tryz.func112, Tryz.ntmps112
        go_wp2_with (fail)
        generalize hW0 : World.alloc (World.alloc w _) _ = W0 at *
        clear hW0
        have k0 := fun g : Grown W0 => (HA.out.grow g.h).c0
        have k1 := fun g : Grown W0 => (HA.out.grow g.h).c1
        dsimp only at k0 k1
        refine region_pred_l (lk [(16, fun u _ => u = .agg #[.int .i64 a, .int .i64 b]), (17, fun u _ => u = .int .i64 n), (18, fun u _ => u = .int .i64 ((n : Int) - 1)), (19, fun u _ => u = .agg #[.int .i64 p0, .int .i64 p1]), (20, fun u _ => u = .agg #[.int .i64 a, .int .i64 b]), (21, fun u _ => u = .agg #[.int .i64 m0, .int .i64 m1])]) 6 _ rfl (by kernel_rfl) (by kernel_rfl) (by kernel_rfl) (lk_steady _ ⟨steady_eq _, steady_eq _, steady_eq _, steady_eq _, steady_eq _, steady_eq _, trivial⟩) ?_ ?_
        · refine ⟨?_, ?_, ?_, ?_, ?_, ?_, ?_, trivial⟩
          · intro _
            refine ob_plain [2] rfl rfl fun aa g h => ?_
            have x0 := seen_out (v := .pointer (some ⟨w.heap.size, 0, none⟩)) rfl rfl h.1
            have e0 := getD_of x0
            exact tupon_value (v := .agg #[.int .i64 a, .int .i64 b]) (by simp [go_sem, e0, x0, k0 g, k1 g]) (Below.refl _ _) rfl
          · intro _
            refine ob_plain [1] rfl rfl fun aa g h => ?_
            have x0 := seen_out (v := .int .i64 n) rfl rfl h.1
            have e0 := getD_of x0
            exact tupon_value (v := .int .i64 n) (by simp [go_sem, e0, x0]) (Below.refl _ _) rfl
          · intro _
            refine ob_plain [17] rfl rfl fun aa g h => ?_
            obtain ⟨_, x0, rfl⟩ := seen_in rfl h.1
            have e0 := getD_of x0
            exact tupon_value (v := .int .i64 ((n : Int) - 1)) (by simp [go_sem, e0, x0, Wn]) (Below.refl _ _) rfl
          · intro _
            refine ob_plain [16, 18] rfl rfl fun aa g h => ?_
            obtain ⟨_, x0, rfl⟩ := seen_in rfl h.1
            have e0 := getD_of x0
            obtain ⟨_, x1, rfl⟩ := seen_in rfl h.2.1
            have e1 := getD_of x1
            refine tupon_enter (f := 112) (args := #[.agg #[.int .i64 a, .int .i64 b], .int .i64 ((n : Int) - 1)]) (by simp [go_sem, e0, x0, e1, x1]) rfl ?_
            exact (IH.out g.w).mono fun e w' ⟨he, hB⟩ => ⟨_, he, hB, rfl⟩
          · intro _
            refine ob_plain [2] rfl rfl fun aa g h => ?_
            have x0 := seen_out (v := .pointer (some ⟨w.heap.size, 0, none⟩)) rfl rfl h.1
            have e0 := getD_of x0
            exact tupon_value (v := .agg #[.int .i64 a, .int .i64 b]) (by simp [go_sem, e0, x0, k0 g, k1 g]) (Below.refl _ _) rfl
          · intro _
            refine ob_plain [19, 20] rfl rfl fun aa g h => ?_
            obtain ⟨_, x0, rfl⟩ := seen_in rfl h.1
            have e0 := getD_of x0
            obtain ⟨_, x1, rfl⟩ := seen_in rfl h.2.1
            have e1 := getD_of x1
            refine tupon_enter (f := 68) (args := #[.agg #[.int .i64 p0, .int .i64 p1], .agg #[.int .i64 a, .int .i64 b]]) (by simp [go_sem, e0, x0, e1, x1]) rfl ?_
            exact (KS.out g.w).mono fun e w' ⟨he, hB⟩ => ⟨_, he, hB, rfl⟩
          · exact fun h => absurd rfl h
        rintro w5 hB5 _ rfl _ rfl _ rfl _ rfl _ rfl _ rfl
        simp only [Act.put, List.setIfInBounds_toArray, List.set_cons_succ, List.set_cons_zero]
        have hB6 := below_then HBA.out hB5
        have hR5 := HR.out.grow hB5
        have q0 := hR5.c0
        have q1 := hR5.c1
        have z0 := hR5.frozen 0
        have z1 := hR5.frozen 1
        dsimp only at q0 q1
        refine ⟨_, by simp [go_sem, q0, q1, z0, z1]; rfl, ?_⟩
        clear k0 k1
        go_wp2_with (fail)
        refine bodyPost_ret (v := .agg #[.int .i64 m0, .int .i64 m1]) (by simp [results, Tryz.results112, go_sem, q0, q1]) rfl ⟨rfl, ?_⟩
        exact FIN.out _ _ _ hB6
end Go.Proofs.YthakeeinhgfbbaaGreat

namespace Go.Proofs.YthakeeinhgfbbaaGreat
open Go.ChangeShapes Go.WideShapes Go.ChangeAt Go.RowKit
set_option linter.unusedVariables false
set_option linter.unusedSimpArgs false
set_option maxRecDepth 100000

attribute [local irreducible] Calls
attribute [local go_sem ↓] run_max_two run_min_two run_max_three
theorem ByT.head {W : World} {b : Nat} {k : Int} {e : List Int} (h : ByT W b k e) (x : Int) : ByT (W.setCell ⟨b, 0, none⟩ (.int .i64 x)) b x e := by
  have h1 := cellsT_set (o := 0) (u := .int .i64 x) h
  refine Eq.trans h1 ?_
  simp
theorem coll_bdd {B : Int} (hB : 0 ≤ B) : ∀ (S l : List Tm) (A : Int), 0 ≤ A → Bdd A l → (∀ t ∈ S, EV t.2 ∧ -B ≤ t.1 ∧ t.1 ≤ B) → Bdd (A + B * S.length) (S.foldl (fun l x => insT x l) l)
  | [], l, A, hA, h, _ => by simpa using h
  | x :: S, l, A, hA, h, hS => by
    rw [List.foldl_cons]
    have := coll_bdd hB S (insT x l) (A + B) (by omega) (ins_bdd hA hB (hS x (by simp)) h) (fun t ht => hS t (by simp [ht]))
    have e : A + B * ((x :: S).length : Int) = A + B + B * S.length := by
      rw [List.length_cons]
      push_cast
      rw [Int.mul_add]
      omega
    rw [e]
    exact this
theorem collT_bdd {Q : List (Tm × Tm)} (h : ∀ q ∈ Q, TV q.1 ∧ TV q.2 ∧ Num q.1.1 ∧ Num q.2.1) : Bdd (140737488355328 * Q.length) (collT (Q.map prT)) := by
  have := coll_bdd (B := 140737488355328) (by decide) (Q.map prT) [] 0 (by decide) (fun t ht => by simp at ht) (fun t ht => by
    obtain ⟨q, hq, rfl⟩ := List.mem_map.1 ht
    obtain ⟨h1, h2, h3, h4⟩ := h q hq
    exact ⟨add_ev h1.1 h2.1, pr_bd h3 h4⟩)
  rw [List.length_map, Int.zero_add] at this
  exact this
theorem num_mul {a b : Int} (h1 : Num a) (h2 : Num b) : -4611686018427387904 ≤ a * b ∧ a * b ≤ 4611686018427387904 := by
  unfold Num at h1 h2
  constructor
  · rcases Int.le_total 0 b with h | h
    · have := Int.mul_le_mul_of_nonneg_right (show -2147483648 ≤ a by omega) h
      omega
    · have := Int.mul_le_mul_of_nonpos_right (show a ≤ 2147483648 by omega) h
      omega
  · rcases Int.le_total 0 b with h | h
    · have := Int.mul_le_mul_of_nonneg_right (show a ≤ 2147483648 by omega) h
      omega
    · have := Int.mul_le_mul_of_nonpos_right (show -2147483648 ≤ a by omega) h
      omega
theorem min_rnd {e : List Int} (h : EV e) : min (trg (1, e)).1 0 = (rndE e).1 := by
  unfold trg rndE
  dsimp only
  by_cases h0 : degE e = 0
  · have : evenE e = true := by
      obtain ⟨a, b, c, d, f, g, rfl⟩ := six_of h
      have hb := h.2
      simp only [List.mem_cons, List.not_mem_nil, or_false, forall_eq_or_imp, forall_eq] at hb
      simp only [degE, List.sum_cons, List.sum_nil] at h0
      simp only [evenE, List.all_cons, List.all_nil, Bool.and_true, Bool.and_eq_true, beq_iff_eq]
      omega
    rw [if_pos h0, if_pos this]
    decide
  · rw [if_neg h0]
    by_cases h1 : evenE e = true
    · rw [if_pos h1, if_pos h1]; decide
    · rw [if_neg h1, if_neg h1]; decide
theorem rnd_snd (e : List Int) : (rndE e).2 = 1 := by unfold rndE; split <;> rfl
theorem rndP_of {p : Tm × Tm} {V : Int} (hV : dn (p.1.1 * p.2.1) 65536 = V) : rndP p = if V * 65536 = p.1.1 * p.2.1 then (0, 0) else rndE (addE p.1.2 p.2.2) := by
  unfold rndP
  have h1 := dn_mul (p.1.1 * p.2.1) (d := 65536) (by decide)
  by_cases h : V * 65536 = p.1.1 * p.2.1
  · rw [if_pos h, if_pos ((dn_eq_up _ (by decide)).2 (by omega))]
  · rw [if_neg h, if_neg (fun q => h (by
      have := (dn_eq_up (p.1.1 * p.2.1) (d := 65536) (by decide)).1 q
      rw [hV] at h1
      omega))]
section
variable (wr : World) (ba oa n1 ca bb ob n2 cb k jj : Nat) (ka kb P V : Int)
def phiM : Tmp → Value → World → Prop := lk [(32, fun u _ => u = .slice (some ⟨ba, oa, none⟩) n1 ca), (33, fun u _ => u = .int .i64 (k : Int)), (34, fun u _ => u = .pointer (some ⟨ba, oa + k * 7, none⟩)), (35, fun u _ => u = .pointer (some ⟨ba, oa + k * 7, none⟩)), (36, fun u _ => u = .int .i64 ka), (37, fun u _ => u = .slice (some ⟨bb, ob, none⟩) n2 cb), (38, fun u _ => u = .int .i64 (jj : Int)), (39, fun u _ => u = .pointer (some ⟨bb, ob + jj * 7, none⟩)), (40, fun u _ => u = .pointer (some ⟨bb, ob + jj * 7, none⟩)), (41, fun u _ => u = .int .i64 kb), (42, fun u _ => u = .int .i64 P), (43, fun u _ => u = .int .i64 V), (44, fun u _ => u = .agg #[.int .i64 V, .int .u8 0, .int .u8 0, .int .u8 0, .int .u8 0, .int .u8 0, .int .u8 0]), (13, fun u w' => ∃ X, u = .pointer (some ⟨X, 0, none⟩) ∧ wr.heap.size ≤ X ∧ ByT w' X 0 [0, 0, 0, 0, 0, 0])]
theorem phiM_steady : ∀ t v w1 w2, Below w1.heap.size w1 w2 → phiM wr ba oa n1 ca bb ob n2 cb k jj ka kb P V t v w1 → phiM wr ba oa n1 ca bb ob n2 cb k jj ka kb P V t v w2 := lk_steady _ ⟨steady_eq _, steady_eq _, steady_eq _, steady_eq _, steady_eq _, steady_eq _, steady_eq _, steady_eq _, steady_eq _, steady_eq _, steady_eq _, steady_eq _, steady_eq _, fun u w1 w2 hb ⟨X, h1, h2, h3⟩ => ⟨X, h1, h2, (hb.block X h3.lt).trans h3⟩, trivial⟩
end
def MqI (W0 : World) (Q : List (Tm × Tm)) (p lo hi : Value) (wr : World) : Prop := ∃ b o c, p = .slice (some ⟨b, o, none⟩) (collT (Q.map prT)).length c ∧ (collT (Q.map prT)).length ≤ c ∧ lo = .int .i64 (missM Q).1 ∧ hi = .int .i64 (missM Q).2 ∧ Hid (Tx wr (.slice (some ⟨b, o, none⟩) (collT (Q.map prT)).length c) (collT (Q.map prT))) ∧ ∃ g : Grown W0, wr = g.w
set_option maxHeartbeats 80000000 in
theorem rmul_ok (v u : Value) (l m : List Tm) (deg : Int) (w : World) (hv : Tx w v l) (hu : Tx w u m) (hl : ∀ t ∈ l, TV t ∧ Num t.1) (hm : ∀ t ∈ m, TV t ∧ Num t.1) (hsm : l.length * m.length ≤ 10000) :
    Calls Tryz.prog 67 #[v, u, .int .i64 deg] w fun e w' => ∃ r, e = .returned (.tuple #[r, .agg #[.int .i64 (mulR l m deg).2.1, .int .i64 (mulR l m deg).2.2]]) ∧ Tx w' r (mulR l m deg).1 ∧ NewB w.heap.size r ∧ Below w.heap.size w w' := by
  obtain ⟨R, hR⟩ : ∃ R, mulR l m deg = R := ⟨_, rfl⟩
  rw [hR]
  have HRR := Lib.hid hR
  obtain ⟨Rl, r1, r2⟩ := R
  dsimp only
  obtain ⟨pA, ca, rfl⟩ := hv.cut
  obtain ⟨pB, cb, rfl⟩ := hu.cut
  have hm1 := hv.1
  have hm2 := hu.1
  unfold maxLen at hm1 hm2
  have HV := Lib.hid hv
  have HU := Lib.hid hu
  have HL := Lib.hid hl
  have HM := Lib.hid hm
  have HSM := Lib.hid hsm
  have hba : Below w.heap.size w ((w.alloc (.cells #[.int .i64 0, .int .i64 0] 24)).alloc (.cells #[] 63)) := ((Below.refl _ _).alloc (Nat.le_refl _) _).alloc (by simp) _
  have hI1 : IvC ((w.alloc (.cells #[.int .i64 0, .int .i64 0] 24)).alloc (.cells #[] 63)) w.heap.size (0, 0) := (Below.heap_alloc _ _ _ (by simp)).trans (World.alloc_heap_new w _)
  have HI := Lib.hid hI1
  have HBA := Lib.hid hba
  clear hR hv hu hl hm hsm hba hI1
  go_enter Tryz.func67, Tryz.ntmps67
  go_wp2_with (fail)
  generalize hW0 : World.alloc (World.alloc w _) _ = W0 at *
  clear hW0
  go_loopw [8, 9, 10, 11] (fun p lo hi i wr => ∃ k : Nat, i = .int .i64 k ∧ k ≤ l.length ∧ MqI W0 (pairsT (l.take k) m) p lo hi wr) (fun _ _ _ i _ => l.length - (intOf i).toNat)
  case atStart => exact ⟨0, rfl, Nat.zero_le _, _, _, _, rfl, Nat.le_refl _, rfl, rfl, Lib.hid ⟨Nat.zero_le _, _, _, rfl, fun i x hx => by simp [collT, pairsT] at hx⟩, ⟨W0, Below.refl _ _⟩, rfl⟩
  case round =>
    obtain ⟨k, rfl, hk, b0', o0', c0', rfl, hc0, rfl, rfl, HT0, g0, rfl⟩ := hrel
    by_cases hlt : k < l.length
    · have ika : (k : Int) < l.length := by omega
      obtain ⟨s, hs⟩ : ∃ t, l[k]? = some t := ⟨_, List.getElem?_eq_getElem hlt⟩
      have HS := Lib.hid hs
      clear hs
      go_wp2_with (fail)
      go_loopw [8, 9, 10, 12] (fun p lo hi j wr => ∃ jj : Nat, j = .int .i64 jj ∧ jj ≤ m.length ∧ MqI W0 (pairsT (l.take k) m ++ (m.take jj).map fun t => (s, t)) p lo hi wr) (fun _ _ _ j _ => m.length - (intOf j).toNat)
      case atStart => exact ⟨0, rfl, Nat.zero_le _, by
        rw [List.take_zero, List.map_nil, List.append_nil]
        exact ⟨b0', o0', c0', rfl, hc0, rfl, rfl, HT0, g0, rfl⟩⟩
      case round =>
        clear HT0 hc0
        obtain ⟨jj, rfl, hjj, hmq⟩ := hrel
        by_cases hlj : jj < m.length
        · have ikb : (jj : Int) < m.length := by omega
          obtain ⟨t, ht⟩ : ∃ t, m[jj]? = some t := ⟨_, List.getElem?_eq_getElem hlj⟩
          have hsnoc := row_snoc (s := s) ht
          have hqm : ∀ q ∈ pairsT (l.take k) m ++ (m.take jj).map (fun t => (s, t)), q.1 ∈ l ∧ q.2 ∈ m := fun q hq => q_mem HS.out hq
          have hql := q_len (s := s) (m := m) hlt hjj
          obtain ⟨Q, hQ⟩ : ∃ Q, pairsT (l.take k) m ++ (m.take jj).map (fun t => (s, t)) = Q := ⟨_, rfl⟩
          have HREL : Hid (∀ p lo hi wr, MqI W0 (Q ++ [(s, t)]) p lo hi wr → MqI W0 (pairsT (l.take k) m ++ (m.take (jj + 1)).map fun t => (s, t)) p lo hi wr) := Lib.hid (fun p lo hi wr h => by
            rw [hsnoc, ← List.append_assoc, hQ]
            exact h)
          rw [hQ] at hmq hqm hql
          have sV := HL.out s (List.mem_of_getElem? HS.out)
          have tV := HM.out t (List.mem_of_getElem? ht)
          have hbd := collT_bdd (Q := Q) (fun q hq => ⟨(HL.out _ (hqm q hq).1).1, (HM.out _ (hqm q hq).2).1, (HL.out _ (hqm q hq).1).2, (HM.out _ (hqm q hq).2).2⟩)
          have hcl := coll_len (Q.map prT)
          rw [List.length_map] at hcl
          have hmb := miss_bd Q
          have hq1 : (Q.length : Int) ≤ 10000 := by have := HSM.out; omega
          have hpr := pr_bd (p := (s, t)) sV.2 tV.2
          obtain ⟨V, hV⟩ : ∃ V, dn (s.1 * t.1) 65536 = V := ⟨_, rfl⟩
          have hrp := rndP_of (p := (s, t)) hV
          have hprT : prT (s, t) = (V, addE s.2 t.2) := by unfold prT; rw [← hV]
          rw [hprT] at hpr
          have hev := add_ev sV.1.1 tV.1.1
          have hPb := num_mul sV.2 tV.2
          have hVr := dn_mul (s.1 * t.1) (d := 65536) (by decide)
          rw [hV] at hVr
          obtain ⟨ka, a0, a1, a2, a3, a4, a5, rfl⟩ := six_at sV.1
          obtain ⟨kb, b0, b1, b2, b3, b4, b5, rfl⟩ := six_at tV.1
          obtain ⟨ba, oa, hp, hba, rda⟩ := HV.out.rd7 HS.out
          subst hp
          obtain ⟨bb, ob, hp, hbb, rdb⟩ := HU.out.rd7 ht
          subst hp
          dsimp only at hV hrp hprT hpr hev hPb hVr
          obtain ⟨e0, he0⟩ : ∃ e, (a0 + b0) % 256 = e := ⟨_, rfl⟩
          obtain ⟨e1, he1⟩ : ∃ e, (a1 + b1) % 256 = e := ⟨_, rfl⟩
          obtain ⟨e2, he2⟩ : ∃ e, (a2 + b2) % 256 = e := ⟨_, rfl⟩
          obtain ⟨e3, he3⟩ : ∃ e, (a3 + b3) % 256 = e := ⟨_, rfl⟩
          obtain ⟨e4, he4⟩ : ∃ e, (a4 + b4) % 256 = e := ⟨_, rfl⟩
          obtain ⟨e5, he5⟩ : ∃ e, (a5 + b5) % 256 = e := ⟨_, rfl⟩
          have hadd : addE [a0, a1, a2, a3, a4, a5] [b0, b1, b2, b3, b4, b5] = [e0, e1, e2, e3, e4, e5] := by simp [addE, he0, he1, he2, he3, he4, he5]
          rw [hadd] at hrp hprT hev
          obtain ⟨P, hP⟩ : ∃ P, ka * kb = P := ⟨_, rfl⟩
          have Wp : IntKind.i64.wrap (ka * kb) = P := by rw [← hP]; exact wrap_i64 _ (by omega) (by omega)
          rw [hP] at hV hrp hPb hVr
          have Wv : IntKind.i64.wrap (V * 65536) = V * 65536 := wrap_i64 _ (by omega) (by omega)
          have Wa0 : IntKind.u8.wrap (a0 + b0) = e0 := by rw [← he0]; exact wrap_u8 _ (by have h1 := sV.1.1.2 a0 (by simp); have h2 := tV.1.1.2 b0 (by simp); omega)
          have Wa1 : IntKind.u8.wrap (a1 + b1) = e1 := by rw [← he1]; exact wrap_u8 _ (by have h1 := sV.1.1.2 a1 (by simp); have h2 := tV.1.1.2 b1 (by simp); omega)
          have Wa2 : IntKind.u8.wrap (a2 + b2) = e2 := by rw [← he2]; exact wrap_u8 _ (by have h1 := sV.1.1.2 a2 (by simp); have h2 := tV.1.1.2 b2 (by simp); omega)
          have Wa3 : IntKind.u8.wrap (a3 + b3) = e3 := by rw [← he3]; exact wrap_u8 _ (by have h1 := sV.1.1.2 a3 (by simp); have h2 := tV.1.1.2 b3 (by simp); omega)
          have Wa4 : IntKind.u8.wrap (a4 + b4) = e4 := by rw [← he4]; exact wrap_u8 _ (by have h1 := sV.1.1.2 a4 (by simp); have h2 := tV.1.1.2 b4 (by simp); omega)
          have Wa5 : IntKind.u8.wrap (a5 + b5) = e5 := by rw [← he5]; exact wrap_u8 _ (by have h1 := sV.1.1.2 a5 (by simp); have h2 := tV.1.1.2 b5 (by simp); omega)
          have HC := Lib.hid (fun w => r2floor P 65536 w (by omega) (by omega) (by decide))
          rw [hV] at HC
          have HTR := Lib.hid (fun w => rtr_ok 1 e0 e1 e2 e3 e4 e5 w hev (by unfold Num; decide))
          obtain ⟨⟨x1, x2⟩, hx⟩ : ∃ X, trg (1, [e0, e1, e2, e3, e4, e5]) = X := ⟨_, rfl⟩
          have hmin := min_rnd hev
          have hsnd := rnd_snd [e0, e1, e2, e3, e4, e5]
          have hrb := rnd_bd [e0, e1, e2, e3, e4, e5]
          rw [hx] at HTR hmin
          obtain ⟨⟨d1, d2⟩, hd⟩ : ∃ X, rndE [e0, e1, e2, e3, e4, e5] = X := ⟨_, rfl⟩
          rw [hd] at hmin hsnd hrb hrp
          dsimp only at HTR hmin hsnd hrb
          subst hsnd
          have hmsn := missM_snoc Q ((ka, [a0, a1, a2, a3, a4, a5]), (kb, [b0, b1, b2, b3, b4, b5]))
          rw [hrp] at hmsn
          obtain ⟨⟨p1, p2⟩, hpp⟩ : ∃ M, missM Q = M := ⟨_, rfl⟩
          obtain ⟨S, hS⟩ : ∃ S, collT (Q.map prT) = S := ⟨_, rfl⟩
          have hsn : collT ((Q ++ [((ka, [a0, a1, a2, a3, a4, a5]), (kb, [b0, b1, b2, b3, b4, b5]))]).map prT) = insT (V, [e0, e1, e2, e3, e4, e5]) S := by
            rw [List.map_append, List.map_cons, List.map_nil, collT_snoc, hprT, hS]
          unfold MqI at hmq
          rw [hS, hpp] at hmq
          rw [hS] at hbd hcl
          rw [hpp] at hmb hmsn
          dsimp only at hmq hmb hmsn
          obtain ⟨b', o', c', rfl, hc', rfl, rfl, HT, g, rfl⟩ := hmq
          have HIN := Lib.hid (fun (w : World) (h : Tx w (.slice (some ⟨b', o', none⟩) S.length c') S) => insert_ok b' o' c' S (V, [e0, e1, e2, e3, e4, e5]) w h hc' (bdd_ts hbd (by omega)) ⟨⟨hev, by dsimp only; omega⟩, by unfold Small62; dsimp only; omega⟩ (by omega))
          rw [show valT (V, [e0, e1, e2, e3, e4, e5]) = .agg #[.int .i64 V, .int .u8 e0, .int .u8 e1, .int .u8 e2, .int .u8 e3, .int .u8 e4, .int .u8 e5] from rfl] at HIN
          have rga := fun gg : Grown g.w => rda ⟨gg.w, below_then HBA.out (below_then g.h gg.h)⟩
          have rgb := fun gg : Grown g.w => rdb ⟨gg.w, below_then HBA.out (below_then g.h gg.h)⟩
          dsimp only at rga rgb
          have fa0 := fun gg => (rga gg).1
          have fb0 := fun gg => (rgb gg).1
          have HRA := Lib.hid rga
          have HRB := Lib.hid rgb
          have HEV := Lib.hid hev
          have HSN := Lib.hid hsn
          have HMS := Lib.hid hmsn
          have HPP := Lib.hid hpp
          have HSS := Lib.hid hS
          have ht' := Lib.hid ht
          clear hsnoc hqm hql hQ sV tV hbd hcl hprT hrp hpr hPb rda rdb hadd hx hd hS hpp hsn hmsn rga rgb hev ht hV hP hVr
          go_wp2_with (fail)
          refine region_pred_n 14 (phiM g.w ba oa l.length ca bb ob m.length cb k jj ka kb P V) (by kernel_rfl) (by kernel_rfl) (phiM_steady g.w ba oa l.length ca bb ob m.length cb k jj ka kb P V) ?_ ?_
          · refine ⟨?_, ?_, ?_, ?_, ?_, ?_, ?_, ?_, ?_, ?_, ?_, ?_, ?_, ?_, trivial⟩
            · refine ob_plain [0] rfl rfl fun aa gg h => ?_
              have r0 := seen_out (v := .slice (some ⟨ba, oa, none⟩) l.length ca) rfl rfl h.1
              have e0 := getD_of r0
              exact upon_value (v := .slice (some ⟨ba, oa, none⟩) l.length ca) (by simp [go_sem, e0, r0]) (Below.refl _ _) rfl
            · refine ob_plain [11] rfl rfl fun aa gg h => ?_
              have r0 := seen_out (v := .int .i64 (k : Int)) rfl rfl h.1
              have e0 := getD_of r0
              exact upon_value (v := .int .i64 (k : Int)) (by simp [go_sem, e0, r0]) (Below.refl _ _) rfl
            · refine ob_plain [32, 33] rfl rfl fun aa gg h => ?_
              obtain ⟨_, r0, rfl⟩ := seen_in rfl h.1
              have e0 := getD_of r0
              obtain ⟨_, r1, rfl⟩ := seen_in rfl h.2.1
              have e1 := getD_of r1
              exact upon_value (v := .pointer (some ⟨ba, oa + k * 7, none⟩)) (by simp [go_sem, e0, r0, e1, r1, ika]) (Below.refl _ _) rfl
            · refine ob_plain [34] rfl rfl fun aa gg h => ?_
              obtain ⟨_, r0, rfl⟩ := seen_in rfl h.1
              have e0 := getD_of r0
              exact upon_value (v := .pointer (some ⟨ba, oa + k * 7, none⟩)) (by simp [go_sem, e0, r0]) (Below.refl _ _) rfl
            · refine ob_plain [35] rfl rfl fun aa gg h => ?_
              obtain ⟨_, r0, rfl⟩ := seen_in rfl h.1
              have e0 := getD_of r0
              exact upon_value (v := .int .i64 ka) (by simp [go_sem, e0, r0, fa0 gg]) (Below.refl _ _) rfl
            · refine ob_plain [1] rfl rfl fun aa gg h => ?_
              have r0 := seen_out (v := .slice (some ⟨bb, ob, none⟩) m.length cb) rfl rfl h.1
              have e0 := getD_of r0
              exact upon_value (v := .slice (some ⟨bb, ob, none⟩) m.length cb) (by simp [go_sem, e0, r0]) (Below.refl _ _) rfl
            · refine ob_plain [12] rfl rfl fun aa gg h => ?_
              have r0 := seen_out (v := .int .i64 (jj : Int)) rfl rfl h.1
              have e0 := getD_of r0
              exact upon_value (v := .int .i64 (jj : Int)) (by simp [go_sem, e0, r0]) (Below.refl _ _) rfl
            · refine ob_plain [37, 38] rfl rfl fun aa gg h => ?_
              obtain ⟨_, r0, rfl⟩ := seen_in rfl h.1
              have e0 := getD_of r0
              obtain ⟨_, r1, rfl⟩ := seen_in rfl h.2.1
              have e1 := getD_of r1
              exact upon_value (v := .pointer (some ⟨bb, ob + jj * 7, none⟩)) (by simp [go_sem, e0, r0, e1, r1, ikb]) (Below.refl _ _) rfl
            · refine ob_plain [39] rfl rfl fun aa gg h => ?_
              obtain ⟨_, r0, rfl⟩ := seen_in rfl h.1
              have e0 := getD_of r0
              exact upon_value (v := .pointer (some ⟨bb, ob + jj * 7, none⟩)) (by simp [go_sem, e0, r0]) (Below.refl _ _) rfl
            · refine ob_plain [40] rfl rfl fun aa gg h => ?_
              obtain ⟨_, r0, rfl⟩ := seen_in rfl h.1
              have e0 := getD_of r0
              exact upon_value (v := .int .i64 kb) (by simp [go_sem, e0, r0, fb0 gg]) (Below.refl _ _) rfl
            · refine ob_plain [36, 41] rfl rfl fun aa gg h => ?_
              obtain ⟨_, r0, rfl⟩ := seen_in rfl h.1
              have e0 := getD_of r0
              obtain ⟨_, r1, rfl⟩ := seen_in rfl h.2.1
              have e1 := getD_of r1
              exact upon_value (v := .int .i64 P) (by simp [go_sem, e0, r0, e1, r1, Wp]) (Below.refl _ _) rfl
            · refine ob_plain [42] rfl rfl fun aa gg h => ?_
              obtain ⟨_, r0, rfl⟩ := seen_in rfl h.1
              have e0 := getD_of r0
              exact upon_enter (f := 108) (args := #[.int .i64 P, .int .i64 65536]) (by simp [go_sem, e0, r0]) rfl ((HC.out _).mono fun e w' ⟨h, hB⟩ => ⟨_, h, by subst hB; exact Below.refl _ _, rfl⟩)
            · refine ob_plain [43] rfl rfl fun aa gg h => ?_
              obtain ⟨_, r0, rfl⟩ := seen_in rfl h.1
              have e0 := getD_of r0
              exact upon_value (v := .agg #[.int .i64 V, .int .u8 0, .int .u8 0, .int .u8 0, .int .u8 0, .int .u8 0, .int .u8 0]) (by simp [go_sem, e0, r0]) (Below.refl _ _) rfl
            · refine ob_plain [] rfl rfl fun aa gg h => ?_
              exact upon_value (v := .pointer (some ⟨gg.w.heap.size, 0, none⟩)) (w1 := gg.w.alloc (.cells #[.int .i64 0, .int .u8 0, .int .u8 0, .int .u8 0, .int .u8 0, .int .u8 0, .int .u8 0] 63)) (by simp [go_sem]) ((Below.refl _ _).alloc (Nat.le_refl _) _) ⟨_, rfl, gg.h.size, World.alloc_heap_new _ _⟩
          · rintro w3 hB3 _ rfl _ rfl _ rfl _ rfl _ rfl _ rfl _ rfl _ rfl _ rfl _ rfl _ rfl _ rfl _ rfl _ ⟨X, rfl, hX, hh⟩
            simp only [Act.put, List.setIfInBounds_toArray, List.set_cons_succ, List.set_cons_zero, finP, List.drop_succ_cons, List.drop_zero, List.take_zero, List.filterMap_nil]
            have hh1 : ByT (((((((w3.setCell ⟨X, 0, none⟩ (.int .i64 V)).setCell ⟨X, 1, none⟩ (.int .u8 0)).setCell ⟨X, 2, none⟩ (.int .u8 0)).setCell ⟨X, 3, none⟩ (.int .u8 0)).setCell ⟨X, 4, none⟩ (.int .u8 0)).setCell ⟨X, 5, none⟩ (.int .u8 0)).setCell ⟨X, 6, none⟩ (.int .u8 0)) X V [0, 0, 0, 0, 0, 0] := ((((((hh.head V).set 0 0).set 1 0).set 2 0).set 3 0).set 4 0).set 5 0
            have hB1 : Below g.w.heap.size g.w (((((((w3.setCell ⟨X, 0, none⟩ (.int .i64 V)).setCell ⟨X, 1, none⟩ (.int .u8 0)).setCell ⟨X, 2, none⟩ (.int .u8 0)).setCell ⟨X, 3, none⟩ (.int .u8 0)).setCell ⟨X, 4, none⟩ (.int .u8 0)).setCell ⟨X, 5, none⟩ (.int .u8 0)).setCell ⟨X, 6, none⟩ (.int .u8 0)) := ((((((hB3.setCell (p := ⟨X, 0, none⟩) hX _).setCell (p := ⟨X, 1, none⟩) hX _).setCell (p := ⟨X, 2, none⟩) hX _).setCell (p := ⟨X, 3, none⟩) hX _).setCell (p := ⟨X, 4, none⟩) hX _).setCell (p := ⟨X, 5, none⟩) hX _).setCell (p := ⟨X, 6, none⟩) hX _
            have HX1 := Lib.hid hh1
            have HB1 := Lib.hid hB1
            have zf0 := hh.frozen 0
            have xc0 := heapT_cell hh (k := 0) rfl
            have zf1 := hh.frozen 1
            have xc1 := heapT_cell hh (k := 1) rfl
            have zf2 := hh.frozen 2
            have xc2 := heapT_cell hh (k := 2) rfl
            have zf3 := hh.frozen 3
            have xc3 := heapT_cell hh (k := 3) rfl
            have zf4 := hh.frozen 4
            have xc4 := heapT_cell hh (k := 4) rfl
            have zf5 := hh.frozen 5
            have xc5 := heapT_cell hh (k := 5) rfl
            have zf6 := hh.frozen 6
            have xc6 := heapT_cell hh (k := 6) rfl
            obtain ⟨W1, hW1⟩ : ∃ W, (((((((w3.setCell ⟨X, 0, none⟩ (.int .i64 V)).setCell ⟨X, 1, none⟩ (.int .u8 0)).setCell ⟨X, 2, none⟩ (.int .u8 0)).setCell ⟨X, 3, none⟩ (.int .u8 0)).setCell ⟨X, 4, none⟩ (.int .u8 0)).setCell ⟨X, 5, none⟩ (.int .u8 0)).setCell ⟨X, 6, none⟩ (.int .u8 0)) = W := ⟨_, rfl⟩
            rw [hW1] at HX1 HB1
            clear hh1 hB1 fa0 fb0
            go_wp2_with (fail)
            clear hW1 hh zf0 xc0 zf1 xc1 zf2 xc2 zf3 xc3 zf4 xc4 zf5 xc5 zf6 xc6
            go_loopw [14] (fun i wr => ∃ q : Nat, i = .int .i64 q ∧ q ≤ 6 ∧ Hid (ByT wr X V (([e0, e1, e2, e3, e4, e5] : List Int).take q ++ ([0, 0, 0, 0, 0, 0] : List Int).drop q)) ∧ Below g.w.heap.size g.w wr) (fun i _ => 6 - (intOf i).toNat)
            case atStart => exact ⟨0, rfl, by decide, HX1, HB1.out⟩
            case round =>
              obtain ⟨q, rfl, hq, HX, hBi⟩ := hrel
              by_cases hq6 : q < 6
              · rcases (show q = 0 ∨ q = 1 ∨ q = 2 ∨ q = 3 ∨ q = 4 ∨ q = 5 by omega) with rfl | rfl | rfl | rfl | rfl | rfl
                · have hX0 : ByT wr X V [0, 0, 0, 0, 0, 0] := HX.out
                  have fa := (HRA.out ⟨wr, hBi⟩).2.1
                  have fb := (HRB.out ⟨wr, hBi⟩).2.1
                  dsimp only at fa fb
                  have xq := heapT_cell hX0 (k := 1) rfl
                  have fz := hX0.frozen 1
                  have HS2 := Lib.hid (hX0.set 0 e0)
                  have HBS := Lib.hid (hBi.setCell (p := ⟨X, 1, none⟩) hX (.int .u8 e0))
                  clear hX0 HX
                  go_wp2_with (fail)
                  go_region
                  go_wp2_with (fail)
                  exact ⟨⟨1, rfl, by decide, HS2, HBS.out.drew⟩, by simp [intOf]⟩
                · have hX0 : ByT wr X V [e0, 0, 0, 0, 0, 0] := HX.out
                  have fa := (HRA.out ⟨wr, hBi⟩).2.2.1
                  have fb := (HRB.out ⟨wr, hBi⟩).2.2.1
                  dsimp only at fa fb
                  have xq := heapT_cell hX0 (k := 2) rfl
                  have fz := hX0.frozen 2
                  have HS2 := Lib.hid (hX0.set 1 e1)
                  have HBS := Lib.hid (hBi.setCell (p := ⟨X, 2, none⟩) hX (.int .u8 e1))
                  clear hX0 HX
                  go_wp2_with (fail)
                  go_region
                  go_wp2_with (fail)
                  exact ⟨⟨2, rfl, by decide, HS2, HBS.out.drew⟩, by simp [intOf]⟩
                · have hX0 : ByT wr X V [e0, e1, 0, 0, 0, 0] := HX.out
                  have fa := (HRA.out ⟨wr, hBi⟩).2.2.2.1
                  have fb := (HRB.out ⟨wr, hBi⟩).2.2.2.1
                  dsimp only at fa fb
                  have xq := heapT_cell hX0 (k := 3) rfl
                  have fz := hX0.frozen 3
                  have HS2 := Lib.hid (hX0.set 2 e2)
                  have HBS := Lib.hid (hBi.setCell (p := ⟨X, 3, none⟩) hX (.int .u8 e2))
                  clear hX0 HX
                  go_wp2_with (fail)
                  go_region
                  go_wp2_with (fail)
                  exact ⟨⟨3, rfl, by decide, HS2, HBS.out.drew⟩, by simp [intOf]⟩
                · have hX0 : ByT wr X V [e0, e1, e2, 0, 0, 0] := HX.out
                  have fa := (HRA.out ⟨wr, hBi⟩).2.2.2.2.1
                  have fb := (HRB.out ⟨wr, hBi⟩).2.2.2.2.1
                  dsimp only at fa fb
                  have xq := heapT_cell hX0 (k := 4) rfl
                  have fz := hX0.frozen 4
                  have HS2 := Lib.hid (hX0.set 3 e3)
                  have HBS := Lib.hid (hBi.setCell (p := ⟨X, 4, none⟩) hX (.int .u8 e3))
                  clear hX0 HX
                  go_wp2_with (fail)
                  go_region
                  go_wp2_with (fail)
                  exact ⟨⟨4, rfl, by decide, HS2, HBS.out.drew⟩, by simp [intOf]⟩
                · have hX0 : ByT wr X V [e0, e1, e2, e3, 0, 0] := HX.out
                  have fa := (HRA.out ⟨wr, hBi⟩).2.2.2.2.2.1
                  have fb := (HRB.out ⟨wr, hBi⟩).2.2.2.2.2.1
                  dsimp only at fa fb
                  have xq := heapT_cell hX0 (k := 5) rfl
                  have fz := hX0.frozen 5
                  have HS2 := Lib.hid (hX0.set 4 e4)
                  have HBS := Lib.hid (hBi.setCell (p := ⟨X, 5, none⟩) hX (.int .u8 e4))
                  clear hX0 HX
                  go_wp2_with (fail)
                  go_region
                  go_wp2_with (fail)
                  exact ⟨⟨5, rfl, by decide, HS2, HBS.out.drew⟩, by simp [intOf]⟩
                · have hX0 : ByT wr X V [e0, e1, e2, e3, e4, 0] := HX.out
                  have fa := (HRA.out ⟨wr, hBi⟩).2.2.2.2.2.2
                  have fb := (HRB.out ⟨wr, hBi⟩).2.2.2.2.2.2
                  dsimp only at fa fb
                  have xq := heapT_cell hX0 (k := 6) rfl
                  have fz := hX0.frozen 6
                  have HS2 := Lib.hid (hX0.set 5 e5)
                  have HBS := Lib.hid (hBi.setCell (p := ⟨X, 6, none⟩) hX (.int .u8 e5))
                  clear hX0 HX
                  go_wp2_with (fail)
                  go_region
                  go_wp2_with (fail)
                  exact ⟨⟨6, rfl, by decide, HS2, HBS.out.drew⟩, by simp [intOf]⟩
              · obtain rfl : q = 6 := by omega
                have hX0 : ByT wr X V [e0, e1, e2, e3, e4, e5] := HX.out
                have hBd := hBi.drew
                have HTr := Lib.hid (HT.out.grow hBd)
                have fa0 := (HRA.out ⟨wr, hBi⟩).1
                have fb0 := (HRB.out ⟨wr, hBi⟩).1
                dsimp only at fa0 fb0
                have y0 := heapT_cell hX0 (k := 0) rfl
                have y1 := heapT_cell hX0 (k := 1) rfl
                have y2 := heapT_cell hX0 (k := 2) rfl
                have y3 := heapT_cell hX0 (k := 3) rfl
                have y4 := heapT_cell hX0 (k := 4) rfl
                have y5 := heapT_cell hX0 (k := 5) rfl
                have y6 := heapT_cell hX0 (k := 6) rfl
                have HX6 := Lib.hid hX0
                clear hX0 HX hq6 hq HX1 HB1
                by_cases hne : V * 65536 = P
                · have hd : (V * 65536 != P) = false := by simp [hne]
                  have HMS2 : Hid (missM (Q ++ [((ka, [a0, a1, a2, a3, a4, a5]), (kb, [b0, b1, b2, b3, b4, b5]))]) = (p1, p2)) := Lib.hid (by rw [HMS.out, if_pos hne]; simp)
                  clear hne
                  go_wp2_with (fail)
                  go_region
                  go_wp2_with (fail)
                  have HI5 := Lib.hid (HIN.out wr.drew HTr.out)
                  refine HI5.out.mono ?_
                  rintro e w5 ⟨r, rfl, h1, ⟨b5, o5, n5, c5, rfl, h2⟩, _, h5⟩
                  obtain rfl : n5 = (insT (V, [e0, e1, e2, e3, e4, e5]) S).length := by
                    obtain ⟨_, _, _, e, _⟩ := h1
                    simp only [Value.slice.injEq] at e
                    exact e.2.1
                  clear y0 y1 y2 y3 y4 y5 y6 fa0 fb0
                  obtain ⟨g5, hg5⟩ : ∃ g5 : Grown W0, w5 = g5.w := grow g (below_then hBd h5)
                  have HT5 := Lib.hid h1
                  clear h1 h5
                  subst hg5
                  go_wp2_with (fail)
                  exact ⟨⟨jj + 1, by go_num, by omega, HREL.out _ _ _ _ ⟨b5, o5, c5, by rw [HSN.out], by rw [HSN.out]; exact h2, by rw [HMS2.out], by rw [HMS2.out], by rw [HSN.out]; exact HT5, g5, rfl⟩⟩, by simp [intOf]; omega⟩
                · have hd : (V * 65536 != P) = true := by simp [hne]
                  have HMS2 : Hid (missM (Q ++ [((ka, [a0, a1, a2, a3, a4, a5]), (kb, [b0, b1, b2, b3, b4, b5]))]) = (p1 + d1, p2 + 1)) := Lib.hid (by rw [HMS.out, if_neg hne])
                  have Wm : IntKind.i64.wrap (p1 + min x1 0) = p1 + d1 := by rw [hmin]; exact wrap_i64 _ (by omega) (by omega)
                  have Wn : IntKind.i64.wrap (p2 + 1) = p2 + 1 := wrap_i64 _ (by omega) (by omega)
                  clear hne
                  go_wp2_with (fail)
                  go_region
                  go_wp2_with (fail)
                  refine (HTR.out _).mono ?_
                  rintro e w4 ⟨rfl, h4⟩
                  have hX4 : ByT w4 X V [e0, e1, e2, e3, e4, e5] := (h4.block X HX6.out.lt).trans HX6.out
                  have HT4 := Lib.hid (HTr.out.grow h4)
                  clear y0 y1 y2 y3 y4 y5 y6 fa0 fb0
                  have y0 := heapT_cell hX4 (k := 0) rfl
                  have y1 := heapT_cell hX4 (k := 1) rfl
                  have y2 := heapT_cell hX4 (k := 2) rfl
                  have y3 := heapT_cell hX4 (k := 3) rfl
                  have y4 := heapT_cell hX4 (k := 4) rfl
                  have y5 := heapT_cell hX4 (k := 5) rfl
                  have y6 := heapT_cell hX4 (k := 6) rfl
                  clear hX4
                  go_wp2_with (fail)
                  have HI5 := Lib.hid (HIN.out w4 HT4.out)
                  refine HI5.out.mono ?_
                  rintro e w5 ⟨r, rfl, h1, ⟨b5, o5, n5, c5, rfl, h2⟩, _, h5⟩
                  obtain rfl : n5 = (insT (V, [e0, e1, e2, e3, e4, e5]) S).length := by
                    obtain ⟨_, _, _, e, _⟩ := h1
                    simp only [Value.slice.injEq] at e
                    exact e.2.1
                  clear y0 y1 y2 y3 y4 y5 y6
                  obtain ⟨g5, hg5⟩ : ∃ g5 : Grown W0, w5 = g5.w := grow g (below_then (below_then hBd h4) h5)
                  have HT5 := Lib.hid h1
                  clear h1 h5
                  subst hg5
                  go_wp2_with (fail)
                  exact ⟨⟨jj + 1, by go_num, by omega, HREL.out _ _ _ _ ⟨b5, o5, c5, by rw [HSN.out], by rw [HSN.out]; exact h2, by rw [HMS2.out], by rw [HMS2.out], by rw [HSN.out]; exact HT5, g5, rfl⟩⟩, by simp [intOf]; omega⟩
        · obtain rfl : jj = m.length := by omega
          have ikb : ¬ (m.length : Int) < m.length := by omega
          rw [List.take_length, ← pairs_snoc HS.out] at hmq
          obtain ⟨b', o', c', rfl, hc', rfl, rfl, HT, g, rfl⟩ := hmq
          go_wp2_with (fail)
          exact ⟨⟨k + 1, by go_num, by omega, b', o', c', rfl, hc', rfl, rfl, HT, g, rfl⟩, by simp [intOf]; omega⟩
    · obtain rfl : k = l.length := by omega
      have ika : ¬ (l.length : Int) < l.length := by omega
      rw [List.take_length] at HT0 hc0 ⊢
      have hmb := miss_bd (pairsT l m)
      have hbd := collT_bdd (Q := pairsT l m) (fun q hq => ⟨(HL.out _ (pairs_mem hq).1).1, (HM.out _ (pairs_mem hq).2).1, (HL.out _ (pairs_mem hq).1).2, (HM.out _ (pairs_mem hq).2).2⟩)
      have hcl := coll_len ((pairsT l m).map prT)
      rw [List.length_map] at hcl
      rw [pairs_len] at hcl hmb hbd
      have hsm := HSM.out
      have hr := HRR.out
      unfold mulR mulP at hr
      obtain ⟨S, hS⟩ : ∃ S, collT ((pairsT l m).map prT) = S := ⟨_, rfl⟩
      obtain ⟨⟨p1, p2⟩, hpp⟩ : ∃ M, missM (pairsT l m) = M := ⟨_, rfl⟩
      rw [hS] at HT0 hc0 hbd hcl hr ⊢
      rw [hpp] at hmb hr ⊢
      dsimp only at hmb hr ⊢
      have K := Lib.hid (rfin_ok (.slice (some ⟨b0', o0', none⟩) S.length c0') S deg p1 p2 g0.w HT0.out (fun t ht => (bdd_ts hbd (by omega) t ht).1) (by unfold FB; dsimp only; omega) (by omega))
      unfold nzT at K
      rw [hr] at K
      dsimp only at K
      have hI0 := HI.out.grow g0.h
      have hB0 := below_then HBA.out g0.h
      have hls := HI.out.lt
      have hgs := g0.h.size
      have HBD := Lib.hid hB0
      clear hmb hbd hcl hsm hr hS hpp HT0 hB0
      go_wp2_with (fail)
      refine K.out.mono ?_
      rintro e w2 ⟨u, rfl, h1, h2, h3⟩
      have hI2 := hI0.grow h3
      have hB2 := below_then HBD.out h3
      have c2 : IvC (w2.alloc (.cells #[.int .i64 r1, .int .i64 r2] 24)) w2.heap.size (r1, r2) := World.alloc_heap_new w2 _
      have ha2 : Below w2.heap.size w2 (w2.alloc (.cells #[.int .i64 r1, .int .i64 r2] 24)) := (Below.refl _ _).alloc (Nat.le_refl _) _
      have hI3 := hI2.grow ha2
      have hB3 := below_then hB2 ha2
      have hX3 := h1.grow ha2
      have y0 := c2.c0
      have y1 := c2.c1
      have q0 := hI3.c0
      have q1 := hI3.c1
      have z0 := hI3.frozen 0
      have z1 := hI3.frozen 1
      have hlt5 := hI3.lt
      have hws := HBA.out.size
      dsimp only at y0 y1 q0 q1
      clear hI0 hI2 c2 ha2 h1 h3
      go_wp2_with (fail)
      generalize hW2 : World.alloc w2 _ = W2 at *
      go_region
      go_wp2_with (fail)
      refine bodyPost_ret (v := .tuple #[u, .agg #[.int .i64 r1, .int .i64 r2]]) (by simp [results, Tryz.results67, go_sem, q0, q1]) rfl ⟨_, rfl, ?_, ⟨h2.1, fun b h => Nat.le_trans (by omega) (h2.2 b h)⟩, ?_⟩
      · exact (hX3.off h2 (by omega) hlt5 _ _).grow ((Below.refl _ _).drew)
      · exact ((hB3.setCell (p := ⟨w.heap.size, 0, none⟩) (Nat.le_refl _) _).setCell (p := ⟨w.heap.size, 1, none⟩) (Nat.le_refl _) _).drew
end Go.Proofs.YthakeeinhgfbbaaGreat

namespace Go.Proofs.YthakeeinhgfbbaaGreat
open Go.ChangeShapes Go.WideShapes Go.ChangeAt Go.RowKit
set_option linter.unusedVariables false
set_option linter.unusedSimpArgs false
set_option maxRecDepth 100000

attribute [local irreducible] Calls
set_option maxHeartbeats 8000000 in
theorem rscale_ok (v : Value) (l : List Tm) (k : Int) (w : World) (hv : Tx w v l) (hl : ∀ t ∈ l, TV t ∧ Num t.1) (hk : Num k) (hsm : l.length ≤ 10000) :
    Calls Tryz.prog 83 #[v, .int .i64 k] w fun e w' => ∃ r, e = .returned (.tuple #[r, .agg #[.int .i64 (mulR l (constT k) 6).2.1, .int .i64 (mulR l (constT k) 6).2.2]]) ∧ Tx w' r (mulR l (constT k) 6).1 ∧ NewB w.heap.size r ∧ Below w.heap.size w w' := by
  obtain ⟨R, hR⟩ : ∃ R, mulR l (constT k) 6 = R := ⟨_, rfl⟩
  have hlen : l.length * (constT k).length ≤ 10000 := Nat.le_trans (Nat.mul_le_mul_left _ (constT_len k)) (by omega)
  have HK := Lib.hid (fun (u : Value) (w1 : World) (h1 : Tx w1 v l) (h2 : Tx w1 u (constT k)) => rmul_ok v u l (constT k) 6 w1 h1 h2 hl (constT_tv hk) hlen)
  rw [hR] at HK ⊢
  obtain ⟨Rl, n0, n1⟩ := R
  dsimp only at HK ⊢
  obtain ⟨p, c, rfl⟩ := hv.cut
  have hba : Below w.heap.size w (w.alloc (.cells #[.int .i64 0, .int .i64 0] 24)) := (Below.refl _ _).alloc (Nat.le_refl _) _
  have hI1 : IvC (w.alloc (.cells #[.int .i64 0, .int .i64 0] 24)) w.heap.size (0, 0) := World.alloc_heap_new w _
  have HU := Lib.hid (hv.grow hba)
  have HI := Lib.hid hI1
  have HBA := Lib.hid hba
  have HC := Lib.hid (fun w => rconst_ok k w)
  clear hR hv hl hk hsm hlen hba hI1
  go_enter Tryz.func83, Tryz.ntmps83
  go_wp2_with (fail)
  generalize hW0 : World.alloc w _ = W0 at *
  clear hW0
  refine (HC.out _).mono ?_
  rintro e w1 ⟨u, rfl, hu, hB1⟩
  have HM := Lib.hid (HK.out u w1 (HU.out.grow hB1) hu)
  obtain ⟨pu, cu, rfl⟩ := hu.cut
  have hI1 := HI.out.grow hB1
  have hB1' := below_then HBA.out hB1
  clear hu
  go_wp2_with (fail)
  refine HM.out.mono ?_
  rintro e w2 ⟨r, rfl, h1, h2, h3⟩
  have hI2 := hI1.grow h3
  have hB2 := below_then hB1' h3
  have c2 : IvC (w2.alloc (.cells #[.int .i64 n0, .int .i64 n1] 24)) w2.heap.size (n0, n1) := World.alloc_heap_new w2 _
  have ha2 : Below w2.heap.size w2 (w2.alloc (.cells #[.int .i64 n0, .int .i64 n1] 24)) := (Below.refl _ _).alloc (Nat.le_refl _) _
  have hI3 := hI2.grow ha2
  have hB3 := below_then hB2 ha2
  have hX3 := h1.grow ha2
  have y0 := c2.c0
  have y1 := c2.c1
  have q0 := hI3.c0
  have q1 := hI3.c1
  have z0 := hI3.frozen 0
  have z1 := hI3.frozen 1
  have hlt5 := hI3.lt
  have hlt1 := hI1.lt
  have hws := hB1'.size
  dsimp only at y0 y1 q0 q1
  clear hI1 hI2 c2 ha2 h1 h3
  go_wp2_with (fail)
  generalize hW2 : World.alloc w2 _ = W2 at *
  go_region
  go_wp2_with (fail)
  refine bodyPost_ret (v := .tuple #[r, .agg #[.int .i64 n0, .int .i64 n1]]) (by simp [results, Tryz.results83, go_sem, q0, q1]) rfl ⟨_, rfl, ?_, ⟨h2.1, fun b h => Nat.le_trans (by omega) (h2.2 b h)⟩, ?_⟩
  · exact (hX3.off h2 (by omega) hlt5 _ _).grow ((Below.refl _ _).drew)
  · exact ((hB3.setCell (p := ⟨w.heap.size, 0, none⟩) (Nat.le_refl _) _).setCell (p := ⟨w.heap.size, 1, none⟩) (Nat.le_refl _) _).drew
theorem bx_rdz {w : World} {p : Option Addr} {n c j : Nat} {l : List (Int × Int)} {x y : Int} (h : Bx w (.slice p n c) l) (hx : l[j]? = some (x, y)) : ∃ b o, p = some ⟨b, o, none⟩ ∧ b < w.heap.size ∧ ∀ g : Grown w, g.w.cell? ⟨b, o + j * 2, none⟩ = some (.int .i64 x) ∧ g.w.cell? ⟨b, o + j * 2 + 1, none⟩ = some (.int .i64 y) := by
  obtain ⟨_, q, c', e, h⟩ := h
  obtain ⟨b, o, hq, h1, h2, h3⟩ := h j _ hx
  simp only [Value.slice.injEq] at e
  exact ⟨b, o, e.1.trans hq, h1, fun g => ⟨(g.h.cell (p := ⟨b, o + j * 2, none⟩) h1).trans h2, (g.h.cell (p := ⟨b, o + j * 2 + 1, none⟩) h1).trans h3⟩⟩
theorem vb_bd {p : Int × Int} (h : VB2 p) : -2147483648 ≤ p.1 ∧ p.1 ≤ 2147483648 ∧ -2147483648 ≤ p.2 ∧ p.2 ≤ 2147483648 := by
  unfold VB2 VI Ent Num at h
  omega
structure ReI (w : World) (S : Nat) (acc : Int × Int) (W : World) : Prop where
  sum : IvC W S acc
  res : IvC W w.heap.size (0, 0)
  bel : Below w.heap.size w W
theorem ReI.grow {w W W' : World} {S : Nat} {acc : Int × Int} (h : ReI w S acc W) (hB : Below W.heap.size W W') : ReI w S acc W' := ⟨h.sum.grow hB, h.res.grow hB, h.bel.trans (hB.mono h.bel.size)⟩
set_option maxHeartbeats 40000000 in
theorem reval_ok (v vb : Value) (l : List Tm) (box : List (Int × Int)) (w : World) (hv : Tx w v l) (hb : Bx w vb box) (ht : ∀ t ∈ l, TV t) (hbv : ∀ p ∈ box, VB2 p) (hsm : l.length ≤ 1000) :
    Calls Tryz.prog 86 #[v, vb] w fun e w' => e = .returned (.agg #[.int .i64 (evalP box l).1, .int .i64 (evalP box l).2]) ∧ Below w.heap.size w w' := by
  obtain ⟨⟨R1, R2⟩, hR⟩ : ∃ R, evalP box l = R := ⟨_, rfl⟩
  rw [hR]
  have HRR := Lib.hid hR
  dsimp only
  clear hR
  obtain ⟨p, c, rfl⟩ := hv.cut
  have hb' := hb
  obtain ⟨_, pb, cb, rfl, _⟩ := hb'
  have HV := Lib.hid hv
  have HT := Lib.hid ht
  have HBV := Lib.hid hbv
  have HBX := Lib.hid hb
  have hba : Below w.heap.size w (w.alloc (.cells #[.int .i64 0, .int .i64 0] 24)) := (Below.refl _ _).alloc (Nat.le_refl _) _
  have HBA := Lib.hid hba
  have HR0 := Lib.hid (IvC.new w 0 0)
  have HPT := Lib.hid (fun w => r2point 0 w)
  rw [show mkLo 0 0 = 0 by decide, show mkHi 0 0 = 0 by decide] at HPT
  clear hv hb ht hbv hba
  go_enter Tryz.func86, Tryz.ntmps86
  go_wp2_with (fail)
  generalize hW0 : World.alloc w _ = W0 at *
  clear hW0
  refine (HPT.out _).mono ?_
  rintro e1 w3 ⟨rfl, hB3⟩
  have hba3 : Below w3.heap.size w3 (w3.alloc (.cells #[.int .i64 0, .int .i64 0] 24)) := (Below.refl _ _).alloc (Nat.le_refl _) _
  have hB30 := below_then HBA.out hB3
  have HE0 : Hid (ReI w w3.heap.size (0, 0) (w3.alloc (.cells #[.int .i64 0, .int .i64 0] 24))) := Lib.hid ⟨IvC.new _ _ _, (HR0.out.grow hB3).grow hba3, below_then hB30 hba3⟩
  have hsw : w.heap.size < w3.heap.size := (HR0.out.grow hB3).lt
  clear hB3 hba3 hB30
  go_wp2_with (fail)
  go_loopw [6] (fun i wr => ∃ k : Nat, i = .int .i64 k ∧ k ≤ l.length ∧ Hid (ReI w w3.heap.size (evalP box (l.take k)) wr)) (fun i _ => l.length - (intOf i).toNat)
  case atStart => exact ⟨0, rfl, Nat.zero_le _, HE0⟩
  case round =>
    clear HE0 HR0 HPT HBA
    obtain ⟨wo, rfl⟩ : ∃ wo, wo = wr := ⟨_, rfl⟩
    obtain ⟨k, rfl, hk, HR⟩ := hrel
    by_cases hlt : k < l.length
    · have i1 : (k : Int) < l.length := by omega
      obtain ⟨t, hx⟩ : ∃ t, l[k]? = some t := ⟨_, List.getElem?_eq_getElem hlt⟩
      have htv := HT.out t (List.mem_of_getElem? hx)
      have hsnoc := evalP_snoc (box := box) hx
      obtain ⟨ka, e⟩ := t
      obtain ⟨b, o, hp, hb, rd⟩ := HV.out.rd hx
      subst hp
      have f0 := rd ⟨wo, HR.out.bel⟩ 0 (.int .i64 ka) rfl
      dsimp only at f0
      rw [Nat.add_zero] at f0
      have HRD := Lib.hid rd
      have HSN := Lib.hid hsnoc
      have HTV := Lib.hid htv
      have HPK := Lib.hid (fun w => r2point ka w)
      clear rd hx htv hsnoc
      obtain ⟨⟨q1, q2⟩, hq⟩ : ∃ R, ptI ka = R := ⟨_, rfl⟩
      have hq' := hq
      unfold ptI at hq'
      simp only [Prod.mk.injEq] at hq'
      rw [hq'.1, hq'.2] at HPK
      have HQ := Lib.hid hq
      clear hq hq'
      go_wp2_with (fail)
      refine (HPK.out _).mono ?_
      rintro e4 w4 ⟨rfl, hB4⟩
      have hbq : Below w4.heap.size w4 (w4.alloc (.cells #[.int .i64 q1, .int .i64 q2] 24)) := (Below.refl _ _).alloc (Nat.le_refl _) _
      have hE4 := (HR.out.grow hB4).grow hbq
      have hsv : w3.heap.size < w4.heap.size := Nat.lt_of_lt_of_le HR.out.sum.lt hB4.size
      have HJ0 : Hid (ReI w w3.heap.size (evalP box (l.take k)) (w4.alloc (.cells #[.int .i64 q1, .int .i64 q2] 24)) ∧ IvC (w4.alloc (.cells #[.int .i64 q1, .int .i64 q2] 24)) w4.heap.size (valI box (ka, e) 0)) := Lib.hid ⟨hE4, by rw [valI_zero]; dsimp only; rw [HQ.out]; exact IvC.new _ _ _⟩
      clear hB4 hbq hE4 f0
      go_wp2_with (fail)
      go_loopw [8] (fun j wr => ∃ jj : Nat, j = .int .i64 jj ∧ jj ≤ 6 ∧ Hid (ReI w w3.heap.size (evalP box (l.take k)) wr ∧ IvC wr w4.heap.size (valI box (ka, e) jj))) (fun j _ => 6 - (intOf j).toNat)
      case atStart => exact ⟨0, rfl, Nat.zero_le _, HJ0⟩
      case round =>
        clear HJ0
        obtain ⟨jj, rfl, hj, HJ⟩ := hrel
        by_cases hjl : jj < 6
        · have i2 : (jj : Int) < 6 := by omega
          obtain ⟨x, hy⟩ : ∃ x, e[jj]? = some x := ⟨_, List.getElem?_eq_getElem (by rw [HTV.out.1.1]; exact hjl)⟩
          have hxb := HTV.out.1.2 x (List.mem_of_getElem? hy)
          obtain ⟨nx, rfl⟩ : ∃ n : Nat, x = n := ⟨x.toNat, by omega⟩
          have he : (encT (ka, e))[jj + 1]? = some (.int .u8 (nx : Int)) := by simp [encT, hy]
          have rdg := fun g : Grown wr => HRD.out ⟨g.w, HJ.out.1.bel.trans (g.h.mono HJ.out.1.bel.size)⟩ (jj + 1) _ he
          rw [show o + k * 7 + (jj + 1) = o + k * 7 + 1 + jj by omega] at rdg
          dsimp only at rdg
          obtain ⟨⟨x1, x2⟩, hx12⟩ : ∃ X, varX box jj = X := ⟨_, rfl⟩
          have hxv := varX_vb HBV.out jj
          rw [hx12] at hxv
          have HXV := Lib.hid hxv
          have HY := Lib.hid hy
          have hbx := Lib.hid (show Below wr.heap.size wr (wr.alloc (.cells #[.int .i64 x1, .int .i64 x2] 24)) from (Below.refl _ _).alloc (Nat.le_refl _) _)
          have hcx := Lib.hid (IvC.new wr x1 x2)
          have hwx : w4.heap.size < wr.heap.size := HJ.out.2.lt
          by_cases hjb : jj < box.length
          · have i3 : (jj : Int) < box.length := by omega
            have hbe : box[jj]? = some (x1, x2) := by
              unfold varX at hx12
              rw [List.getElem?_eq_getElem hjb] at hx12 ⊢
              exact congrArg some hx12
            obtain ⟨bb, ob, hp, hbb, rdb⟩ := bx_rdz HBX.out hbe
            subst hp
            have m0 := (rdb ⟨wr.alloc (.cells #[.int .i64 (-65536), .int .i64 65536] 24), HJ.out.1.bel.alloc HJ.out.1.bel.size _⟩).1
            have m1 := (rdb ⟨wr.alloc (.cells #[.int .i64 (-65536), .int .i64 65536] 24), HJ.out.1.bel.alloc HJ.out.1.bel.size _⟩).2
            dsimp only at m0 m1
            clear rdb hbe
            obtain ⟨w9, hw9⟩ : ∃ W, wr.alloc (.cells #[.int .i64 x1, .int .i64 x2] 24) = W := ⟨_, rfl⟩
            have hX9 : IvC w9 wr.heap.size (x1, x2) := by rw [← hw9]; exact IvC.new wr _ _
            have hB9 : Below wr.heap.size wr w9 := by rw [← hw9]; exact (Below.refl _ _).alloc (Nat.le_refl _) _
            have cx := rdg ⟨w9, hB9⟩
            dsimp only at cx
            have HX9 := Lib.hid hX9
            have HB9 := Lib.hid hB9
            by_cases hpos : 0 < nx
            · have hp0 : (0 : Int) < nx := by omega
              have hvi := valI_in (box := box) (t := (ka, e)) HY.out hpos
              have hv0 := valI_vb box (ka, e) jj
              rw [hx12] at hvi
              have hpv := powX_vb HXV.out nx
              have hiv := HJ.out.2
              have hsum := HJ.out.1
              have HPO := Lib.hid (fun w => rpow_ok _ _ HXV.out nx hpos (by omega) w)
              obtain ⟨⟨v1, v2⟩, hvv⟩ : ∃ V, valI box (ka, e) jj = V := ⟨_, rfl⟩
              rw [hvv] at hvi hv0 hiv
              obtain ⟨⟨r1, r2⟩, hrr⟩ : ∃ V, powX (x1, x2) nx = V := ⟨_, rfl⟩
              rw [hrr] at hvi hpv HPO
              have HML := Lib.hid (fun W => r2mul v1 v2 r1 r2 W hv0 hpv)
              unfold mulI2 at hvi
              dsimp only at hvi HPO
              obtain ⟨m1', hm1⟩ : ∃ R, mulLo v1 v2 r1 r2 = R := ⟨_, rfl⟩
              obtain ⟨m2', hm2⟩ : ∃ R, mulHi v1 v2 r1 r2 = R := ⟨_, rfl⟩
              rw [hm1, hm2] at HML hvi
              have hv9 := hiv.grow hB9
              have k0 := fun g : Grown w9 => (hv9.grow g.h).c0
              have k1 := fun g : Grown w9 => (hv9.grow g.h).c1
              have k2 := fun g : Grown w9 => (hX9.grow g.h).c0
              have k3 := fun g : Grown w9 => (hX9.grow g.h).c1
              have k4 := fun g : Grown w9 => rdg ⟨g.w, below_then hB9 g.h⟩
              dsimp only at k0 k1 k2 k3 k4
              have HS9 := Lib.hid (hsum.grow hB9)
              have HV9 := Lib.hid hv9
              have HVI := Lib.hid hvi
              have hw49 := hv9.lt
              have hcv : IntKind.i64.wrap (nx : Int) = nx := wrap_i64 _ (by omega) (by omega)
              clear hvi hv0 hpv hiv hsum hvv hrr hm1 hm2 hv9 hX9 hB9 HJ rdg hx12 hcx hbx hpos
              go_wp2_with (fail)
              clear hw9 m0 m1 cx
              refine region_pred_l (lk [(44, fun u _ => u = .agg #[.int .i64 v1, .int .i64 v2]), (45, fun u _ => u = .agg #[.int .i64 x1, .int .i64 x2]), (46, fun u _ => u = .slice (some ⟨b, o, none⟩) l.length c), (47, fun u _ => u = .int .i64 (k : Int)), (48, fun u _ => u = .int .i64 (jj : Int)), (49, fun u _ => u = .pointer (some ⟨b, o + k * 7, none⟩)), (50, fun u _ => u = .pointer (some ⟨b, o + k * 7 + 1, none⟩)), (51, fun u _ => u = .pointer (some ⟨b, o + k * 7 + 1 + jj, none⟩)), (52, fun u _ => u = .int .u8 (nx : Int)), (53, fun u _ => u = .int .i64 (nx : Int)), (54, fun u _ => u = .agg #[.int .i64 r1, .int .i64 r2]), (55, fun u _ => u = .agg #[.int .i64 m1', .int .i64 m2'])]) 12 _ rfl (by kernel_rfl) (by kernel_rfl) (by kernel_rfl) (lk_steady _ ⟨steady_eq _, steady_eq _, steady_eq _, steady_eq _, steady_eq _, steady_eq _, steady_eq _, steady_eq _, steady_eq _, steady_eq _, steady_eq _, steady_eq _, trivial⟩) ?_ ?_
              · refine ⟨?_, ?_, ?_, ?_, ?_, ?_, ?_, ?_, ?_, ?_, ?_, ?_, ?_, trivial⟩
                · intro _
                  refine ob_plain [7] rfl rfl fun aa g h => ?_
                  have y0 := seen_out (v := .pointer (some ⟨w4.heap.size, 0, none⟩)) rfl rfl h.1
                  have e0 := getD_of y0
                  exact tupon_value (v := .agg #[.int .i64 v1, .int .i64 v2]) (by simp [go_sem, e0, y0, k0 g, k1 g]) (Below.refl _ _) rfl
                · intro _
                  refine ob_plain [9] rfl rfl fun aa g h => ?_
                  have y0 := seen_out (v := .pointer (some ⟨wr.heap.size, 0, none⟩)) rfl rfl h.1
                  have e0 := getD_of y0
                  exact tupon_value (v := .agg #[.int .i64 x1, .int .i64 x2]) (by simp [go_sem, e0, y0, k2 g, k3 g]) (Below.refl _ _) rfl
                · intro _
                  refine ob_plain [0] rfl rfl fun aa g h => ?_
                  have y0 := seen_out (v := .slice (some ⟨b, o, none⟩) l.length c) rfl rfl h.1
                  have e0 := getD_of y0
                  exact tupon_value (v := .slice (some ⟨b, o, none⟩) l.length c) (by simp [go_sem, e0, y0]) (Below.refl _ _) rfl
                · intro _
                  refine ob_plain [6] rfl rfl fun aa g h => ?_
                  have y0 := seen_out (v := .int .i64 (k : Int)) rfl rfl h.1
                  have e0 := getD_of y0
                  exact tupon_value (v := .int .i64 (k : Int)) (by simp [go_sem, e0, y0]) (Below.refl _ _) rfl
                · intro _
                  refine ob_plain [8] rfl rfl fun aa g h => ?_
                  have y0 := seen_out (v := .int .i64 (jj : Int)) rfl rfl h.1
                  have e0 := getD_of y0
                  exact tupon_value (v := .int .i64 (jj : Int)) (by simp [go_sem, e0, y0]) (Below.refl _ _) rfl
                · intro _
                  refine ob_plain [46, 47] rfl rfl fun aa g h => ?_
                  obtain ⟨_, y0, rfl⟩ := seen_in rfl h.1
                  have e0 := getD_of y0
                  obtain ⟨_, y1, rfl⟩ := seen_in rfl h.2.1
                  have e1 := getD_of y1
                  exact tupon_value (v := .pointer (some ⟨b, o + k * 7, none⟩)) (by simp [go_sem, e0, y0, e1, y1, i1]) (Below.refl _ _) rfl
                · intro _
                  refine ob_plain [49] rfl rfl fun aa g h => ?_
                  obtain ⟨_, y0, rfl⟩ := seen_in rfl h.1
                  have e0 := getD_of y0
                  exact tupon_value (v := .pointer (some ⟨b, o + k * 7 + 1, none⟩)) (by simp [go_sem, e0, y0]) (Below.refl _ _) rfl
                · intro _
                  refine ob_plain [50, 48] rfl rfl fun aa g h => ?_
                  obtain ⟨_, y0, rfl⟩ := seen_in rfl h.1
                  have e0 := getD_of y0
                  obtain ⟨_, y1, rfl⟩ := seen_in rfl h.2.1
                  have e1 := getD_of y1
                  exact tupon_value (v := .pointer (some ⟨b, o + k * 7 + 1 + jj, none⟩)) (by simp [go_sem, e0, y0, e1, y1, i2]) (Below.refl _ _) rfl
                · intro _
                  refine ob_plain [51] rfl rfl fun aa g h => ?_
                  obtain ⟨_, y0, rfl⟩ := seen_in rfl h.1
                  have e0 := getD_of y0
                  exact tupon_value (v := .int .u8 (nx : Int)) (by simp [go_sem, e0, y0, k4 g]) (Below.refl _ _) rfl
                · intro _
                  refine ob_plain [52] rfl rfl fun aa g h => ?_
                  obtain ⟨_, y0, rfl⟩ := seen_in rfl h.1
                  have e0 := getD_of y0
                  exact tupon_value (v := .int .i64 (nx : Int)) (by simp [go_sem, e0, y0, hcv]) (Below.refl _ _) rfl
                · intro _
                  refine ob_plain [45, 53] rfl rfl fun aa g h => ?_
                  obtain ⟨_, y0, rfl⟩ := seen_in rfl h.1
                  have e0 := getD_of y0
                  obtain ⟨_, y1, rfl⟩ := seen_in rfl h.2.1
                  have e1 := getD_of y1
                  refine tupon_enter (f := 112) (args := #[.agg #[.int .i64 x1, .int .i64 x2], .int .i64 (nx : Int)]) (by simp [go_sem, e0, y0, e1, y1]) rfl ?_
                  exact (HPO.out g.w).mono fun e w' ⟨he, hB⟩ => ⟨_, he, hB, rfl⟩
                · intro _
                  refine ob_plain [44, 54] rfl rfl fun aa g h => ?_
                  obtain ⟨_, y0, rfl⟩ := seen_in rfl h.1
                  have e0 := getD_of y0
                  obtain ⟨_, y1, rfl⟩ := seen_in rfl h.2.1
                  have e1 := getD_of y1
                  refine tupon_enter (f := 68) (args := #[.agg #[.int .i64 v1, .int .i64 v2], .agg #[.int .i64 r1, .int .i64 r2]]) (by simp [go_sem, e0, y0, e1, y1]) rfl ?_
                  exact (HML.out g.w).mono fun e w' ⟨he, hB⟩ => ⟨_, he, hB, rfl⟩
                · exact fun h => absurd rfl h
              rintro w5 hB5 _ rfl _ rfl _ rfl _ rfl _ rfl _ rfl _ rfl _ rfl _ rfl _ rfl _ rfl _ rfl
              simp only [Act.put, List.setIfInBounds_toArray, List.set_cons_succ, List.set_cons_zero]
              have hv5 := HV9.out.grow hB5
              have q0 := hv5.c0
              have q1 := hv5.c1
              have z0 := hv5.frozen 0
              have z1 := hv5.frozen 1
              dsimp only at q0 q1
              have hs5 := HS9.out.grow hB5
              have HN : Hid (ReI w w3.heap.size (evalP box (l.take k)) ((w5.setCell ⟨w4.heap.size, 0, none⟩ (.int .i64 m1')).setCell ⟨w4.heap.size, 1, none⟩ (.int .i64 m2')) ∧ IvC ((w5.setCell ⟨w4.heap.size, 0, none⟩ (.int .i64 m1')).setCell ⟨w4.heap.size, 1, none⟩ (.int .i64 m2')) w4.heap.size (valI box (ka, e) (jj + 1))) :=
                Lib.hid ⟨⟨hs5.sum.other (c := w4.heap.size) (by omega) _ _, hs5.res.other (c := w4.heap.size) (by omega) _ _, (hs5.bel.setCell (p := ⟨w4.heap.size, 0, none⟩) (by dsimp only; omega) _).setCell (p := ⟨w4.heap.size, 1, none⟩) (by dsimp only; omega) _⟩, by rw [HVI.out]; exact hv5.set m1' m2'⟩
              clear k0 k1 k2 k3 k4 hs5 hv5
              refine ⟨_, by simp [go_sem, q0, q1, z0, z1]; rfl, ?_⟩
              clear q0 q1 z0 z1
              go_wp2_with (fail)
              exact ⟨⟨jj + 1, by go_num, by omega, HN⟩, by simp [intOf]; omega⟩
            · obtain rfl : nx = 0 := by omega
              have hvo := valI_out (box := box) (t := (ka, e)) HY.out
              have HN : Hid (ReI w w3.heap.size (evalP box (l.take k)) w9 ∧ IvC w9 w4.heap.size (valI box (ka, e) (jj + 1))) := Lib.hid ⟨HJ.out.1.grow hB9, by rw [hvo]; exact HJ.out.2.grow hB9⟩
              rw [show ((0 : Nat) : Int) = 0 from rfl] at cx
              clear hvo HJ hpos hX9 hB9 rdg hx12 hcx hbx
              go_wp2_with (fail)
              exact ⟨⟨jj + 1, by go_num, by omega, HN⟩, by simp [intOf]; omega⟩
          · have i3 : ¬ (jj : Int) < box.length := by omega
            obtain rfl : x1 = -65536 := by
              unfold varX at hx12
              rw [List.getElem?_eq_none (by omega)] at hx12
              exact (congrArg Prod.fst hx12).symm
            obtain rfl : x2 = 65536 := by
              unfold varX at hx12
              rw [List.getElem?_eq_none (by omega)] at hx12
              exact (congrArg Prod.snd hx12).symm
            obtain ⟨w9, hw9⟩ : ∃ W, wr.alloc (.cells #[.int .i64 (-65536), .int .i64 65536] 24) = W := ⟨_, rfl⟩
            have hX9 : IvC w9 wr.heap.size ((-65536), 65536) := by rw [← hw9]; exact IvC.new wr _ _
            have hB9 : Below wr.heap.size wr w9 := by rw [← hw9]; exact (Below.refl _ _).alloc (Nat.le_refl _) _
            have cx := rdg ⟨w9, hB9⟩
            dsimp only at cx
            have HX9 := Lib.hid hX9
            have HB9 := Lib.hid hB9
            by_cases hpos : 0 < nx
            · have hp0 : (0 : Int) < nx := by omega
              have hvi := valI_in (box := box) (t := (ka, e)) HY.out hpos
              have hv0 := valI_vb box (ka, e) jj
              rw [hx12] at hvi
              have hpv := powX_vb HXV.out nx
              have hiv := HJ.out.2
              have hsum := HJ.out.1
              have HPO := Lib.hid (fun w => rpow_ok _ _ HXV.out nx hpos (by omega) w)
              obtain ⟨⟨v1, v2⟩, hvv⟩ : ∃ V, valI box (ka, e) jj = V := ⟨_, rfl⟩
              rw [hvv] at hvi hv0 hiv
              obtain ⟨⟨r1, r2⟩, hrr⟩ : ∃ V, powX ((-65536), 65536) nx = V := ⟨_, rfl⟩
              rw [hrr] at hvi hpv HPO
              have HML := Lib.hid (fun W => r2mul v1 v2 r1 r2 W hv0 hpv)
              unfold mulI2 at hvi
              dsimp only at hvi HPO
              obtain ⟨m1', hm1⟩ : ∃ R, mulLo v1 v2 r1 r2 = R := ⟨_, rfl⟩
              obtain ⟨m2', hm2⟩ : ∃ R, mulHi v1 v2 r1 r2 = R := ⟨_, rfl⟩
              rw [hm1, hm2] at HML hvi
              have hv9 := hiv.grow hB9
              have k0 := fun g : Grown w9 => (hv9.grow g.h).c0
              have k1 := fun g : Grown w9 => (hv9.grow g.h).c1
              have k2 := fun g : Grown w9 => (hX9.grow g.h).c0
              have k3 := fun g : Grown w9 => (hX9.grow g.h).c1
              have k4 := fun g : Grown w9 => rdg ⟨g.w, below_then hB9 g.h⟩
              dsimp only at k0 k1 k2 k3 k4
              have HS9 := Lib.hid (hsum.grow hB9)
              have HV9 := Lib.hid hv9
              have HVI := Lib.hid hvi
              have hw49 := hv9.lt
              have hcv : IntKind.i64.wrap (nx : Int) = nx := wrap_i64 _ (by omega) (by omega)
              clear hvi hv0 hpv hiv hsum hvv hrr hm1 hm2 hv9 hX9 hB9 HJ rdg hx12 hcx hbx hpos
              go_wp2_with (fail)
              clear hw9  cx
              refine region_pred_l (lk [(44, fun u _ => u = .agg #[.int .i64 v1, .int .i64 v2]), (45, fun u _ => u = .agg #[.int .i64 (-65536), .int .i64 65536]), (46, fun u _ => u = .slice (some ⟨b, o, none⟩) l.length c), (47, fun u _ => u = .int .i64 (k : Int)), (48, fun u _ => u = .int .i64 (jj : Int)), (49, fun u _ => u = .pointer (some ⟨b, o + k * 7, none⟩)), (50, fun u _ => u = .pointer (some ⟨b, o + k * 7 + 1, none⟩)), (51, fun u _ => u = .pointer (some ⟨b, o + k * 7 + 1 + jj, none⟩)), (52, fun u _ => u = .int .u8 (nx : Int)), (53, fun u _ => u = .int .i64 (nx : Int)), (54, fun u _ => u = .agg #[.int .i64 r1, .int .i64 r2]), (55, fun u _ => u = .agg #[.int .i64 m1', .int .i64 m2'])]) 12 _ rfl (by kernel_rfl) (by kernel_rfl) (by kernel_rfl) (lk_steady _ ⟨steady_eq _, steady_eq _, steady_eq _, steady_eq _, steady_eq _, steady_eq _, steady_eq _, steady_eq _, steady_eq _, steady_eq _, steady_eq _, steady_eq _, trivial⟩) ?_ ?_
              · refine ⟨?_, ?_, ?_, ?_, ?_, ?_, ?_, ?_, ?_, ?_, ?_, ?_, ?_, trivial⟩
                · intro _
                  refine ob_plain [7] rfl rfl fun aa g h => ?_
                  have y0 := seen_out (v := .pointer (some ⟨w4.heap.size, 0, none⟩)) rfl rfl h.1
                  have e0 := getD_of y0
                  exact tupon_value (v := .agg #[.int .i64 v1, .int .i64 v2]) (by simp [go_sem, e0, y0, k0 g, k1 g]) (Below.refl _ _) rfl
                · intro _
                  refine ob_plain [9] rfl rfl fun aa g h => ?_
                  have y0 := seen_out (v := .pointer (some ⟨wr.heap.size, 0, none⟩)) rfl rfl h.1
                  have e0 := getD_of y0
                  exact tupon_value (v := .agg #[.int .i64 (-65536), .int .i64 65536]) (by simp [go_sem, e0, y0, k2 g, k3 g]) (Below.refl _ _) rfl
                · intro _
                  refine ob_plain [0] rfl rfl fun aa g h => ?_
                  have y0 := seen_out (v := .slice (some ⟨b, o, none⟩) l.length c) rfl rfl h.1
                  have e0 := getD_of y0
                  exact tupon_value (v := .slice (some ⟨b, o, none⟩) l.length c) (by simp [go_sem, e0, y0]) (Below.refl _ _) rfl
                · intro _
                  refine ob_plain [6] rfl rfl fun aa g h => ?_
                  have y0 := seen_out (v := .int .i64 (k : Int)) rfl rfl h.1
                  have e0 := getD_of y0
                  exact tupon_value (v := .int .i64 (k : Int)) (by simp [go_sem, e0, y0]) (Below.refl _ _) rfl
                · intro _
                  refine ob_plain [8] rfl rfl fun aa g h => ?_
                  have y0 := seen_out (v := .int .i64 (jj : Int)) rfl rfl h.1
                  have e0 := getD_of y0
                  exact tupon_value (v := .int .i64 (jj : Int)) (by simp [go_sem, e0, y0]) (Below.refl _ _) rfl
                · intro _
                  refine ob_plain [46, 47] rfl rfl fun aa g h => ?_
                  obtain ⟨_, y0, rfl⟩ := seen_in rfl h.1
                  have e0 := getD_of y0
                  obtain ⟨_, y1, rfl⟩ := seen_in rfl h.2.1
                  have e1 := getD_of y1
                  exact tupon_value (v := .pointer (some ⟨b, o + k * 7, none⟩)) (by simp [go_sem, e0, y0, e1, y1, i1]) (Below.refl _ _) rfl
                · intro _
                  refine ob_plain [49] rfl rfl fun aa g h => ?_
                  obtain ⟨_, y0, rfl⟩ := seen_in rfl h.1
                  have e0 := getD_of y0
                  exact tupon_value (v := .pointer (some ⟨b, o + k * 7 + 1, none⟩)) (by simp [go_sem, e0, y0]) (Below.refl _ _) rfl
                · intro _
                  refine ob_plain [50, 48] rfl rfl fun aa g h => ?_
                  obtain ⟨_, y0, rfl⟩ := seen_in rfl h.1
                  have e0 := getD_of y0
                  obtain ⟨_, y1, rfl⟩ := seen_in rfl h.2.1
                  have e1 := getD_of y1
                  exact tupon_value (v := .pointer (some ⟨b, o + k * 7 + 1 + jj, none⟩)) (by simp [go_sem, e0, y0, e1, y1, i2]) (Below.refl _ _) rfl
                · intro _
                  refine ob_plain [51] rfl rfl fun aa g h => ?_
                  obtain ⟨_, y0, rfl⟩ := seen_in rfl h.1
                  have e0 := getD_of y0
                  exact tupon_value (v := .int .u8 (nx : Int)) (by simp [go_sem, e0, y0, k4 g]) (Below.refl _ _) rfl
                · intro _
                  refine ob_plain [52] rfl rfl fun aa g h => ?_
                  obtain ⟨_, y0, rfl⟩ := seen_in rfl h.1
                  have e0 := getD_of y0
                  exact tupon_value (v := .int .i64 (nx : Int)) (by simp [go_sem, e0, y0, hcv]) (Below.refl _ _) rfl
                · intro _
                  refine ob_plain [45, 53] rfl rfl fun aa g h => ?_
                  obtain ⟨_, y0, rfl⟩ := seen_in rfl h.1
                  have e0 := getD_of y0
                  obtain ⟨_, y1, rfl⟩ := seen_in rfl h.2.1
                  have e1 := getD_of y1
                  refine tupon_enter (f := 112) (args := #[.agg #[.int .i64 (-65536), .int .i64 65536], .int .i64 (nx : Int)]) (by simp [go_sem, e0, y0, e1, y1]) rfl ?_
                  exact (HPO.out g.w).mono fun e w' ⟨he, hB⟩ => ⟨_, he, hB, rfl⟩
                · intro _
                  refine ob_plain [44, 54] rfl rfl fun aa g h => ?_
                  obtain ⟨_, y0, rfl⟩ := seen_in rfl h.1
                  have e0 := getD_of y0
                  obtain ⟨_, y1, rfl⟩ := seen_in rfl h.2.1
                  have e1 := getD_of y1
                  refine tupon_enter (f := 68) (args := #[.agg #[.int .i64 v1, .int .i64 v2], .agg #[.int .i64 r1, .int .i64 r2]]) (by simp [go_sem, e0, y0, e1, y1]) rfl ?_
                  exact (HML.out g.w).mono fun e w' ⟨he, hB⟩ => ⟨_, he, hB, rfl⟩
                · exact fun h => absurd rfl h
              rintro w5 hB5 _ rfl _ rfl _ rfl _ rfl _ rfl _ rfl _ rfl _ rfl _ rfl _ rfl _ rfl _ rfl
              simp only [Act.put, List.setIfInBounds_toArray, List.set_cons_succ, List.set_cons_zero]
              have hv5 := HV9.out.grow hB5
              have q0 := hv5.c0
              have q1 := hv5.c1
              have z0 := hv5.frozen 0
              have z1 := hv5.frozen 1
              dsimp only at q0 q1
              have hs5 := HS9.out.grow hB5
              have HN : Hid (ReI w w3.heap.size (evalP box (l.take k)) ((w5.setCell ⟨w4.heap.size, 0, none⟩ (.int .i64 m1')).setCell ⟨w4.heap.size, 1, none⟩ (.int .i64 m2')) ∧ IvC ((w5.setCell ⟨w4.heap.size, 0, none⟩ (.int .i64 m1')).setCell ⟨w4.heap.size, 1, none⟩ (.int .i64 m2')) w4.heap.size (valI box (ka, e) (jj + 1))) :=
                Lib.hid ⟨⟨hs5.sum.other (c := w4.heap.size) (by omega) _ _, hs5.res.other (c := w4.heap.size) (by omega) _ _, (hs5.bel.setCell (p := ⟨w4.heap.size, 0, none⟩) (by dsimp only; omega) _).setCell (p := ⟨w4.heap.size, 1, none⟩) (by dsimp only; omega) _⟩, by rw [HVI.out]; exact hv5.set m1' m2'⟩
              clear k0 k1 k2 k3 k4 hs5 hv5
              refine ⟨_, by simp [go_sem, q0, q1, z0, z1]; rfl, ?_⟩
              clear q0 q1 z0 z1
              go_wp2_with (fail)
              exact ⟨⟨jj + 1, by go_num, by omega, HN⟩, by simp [intOf]; omega⟩
            · obtain rfl : nx = 0 := by omega
              have hvo := valI_out (box := box) (t := (ka, e)) HY.out
              have HN : Hid (ReI w w3.heap.size (evalP box (l.take k)) w9 ∧ IvC w9 w4.heap.size (valI box (ka, e) (jj + 1))) := Lib.hid ⟨HJ.out.1.grow hB9, by rw [hvo]; exact HJ.out.2.grow hB9⟩
              rw [show ((0 : Nat) : Int) = 0 from rfl] at cx
              clear hvo HJ hpos hX9 hB9 rdg hx12 hcx hbx
              go_wp2_with (fail)
              exact ⟨⟨jj + 1, by go_num, by omega, HN⟩, by simp [intOf]; omega⟩
        · obtain rfl : jj = 6 := by omega
          have hsum := HJ.out.1.sum
          have hiv := HJ.out.2
          have hb1 := vb_bd (evalP_vb box (l.take k))
          have hb2 := vb_bd (valI_vb box (ka, e) 6)
          have hsn := HSN.out
          have hbel := HJ.out.1.bel
          have hres := HJ.out.1.res
          obtain ⟨⟨p1, p2⟩, hpp⟩ : ∃ P, evalP box (l.take k) = P := ⟨_, rfl⟩
          obtain ⟨⟨v1, v2⟩, hvv⟩ : ∃ P, valI box (ka, e) 6 = P := ⟨_, rfl⟩
          rw [hpp] at hsum hb1 hsn
          rw [hvv] at hiv hb2 hsn
          unfold addI2 at hsn
          dsimp only at hb1 hb2 hsn
          have KA := Lib.hid (fun w => r2add p1 p2 v1 v2 w hb1.1 hb1.2.1 hb1.2.2.1 hb1.2.2.2 hb2.1 hb2.2.1 hb2.2.2.1 hb2.2.2.2)
          obtain ⟨a1, ha1⟩ : ∃ a, addLo p1 p2 v1 v2 = a := ⟨_, rfl⟩
          obtain ⟨a2, ha2⟩ : ∃ a, addHi p1 p2 v1 v2 = a := ⟨_, rfl⟩
          rw [ha1, ha2] at KA hsn
          have HS2 := Lib.hid hsn
          have s0 := hsum.c0
          have s1 := hsum.c1
          have u0 := hiv.c0
          have u1 := hiv.c1
          dsimp only at s0 s1 u0 u1
          have HSUM := Lib.hid hsum
          have HRES := Lib.hid hres
          have HBEL := Lib.hid hbel
          clear hb1 hb2 hsn hsum hiv hpp hvv ha1 ha2 hres hbel HJ
          go_wp2_with (fail)
          refine (KA.out _).mono ?_
          rintro e5 w5 ⟨rfl, h5⟩
          have hs5 := HSUM.out.grow h5
          have r0 := hs5.c0
          have r1 := hs5.c1
          have z0 := hs5.frozen 0
          have z1 := hs5.frozen 1
          dsimp only at r0 r1
          have hb5 : Below w.heap.size w w5 := HBEL.out.trans (h5.mono HBEL.out.size)
          have HN : Hid (ReI w w3.heap.size (evalP box (l.take (k + 1))) ((w5.setCell ⟨w3.heap.size, 0, none⟩ (.int .i64 a1)).setCell ⟨w3.heap.size, 1, none⟩ (.int .i64 a2))) := Lib.hid ⟨by rw [HS2.out]; exact hs5.set a1 a2, (HRES.out.grow h5).other (c := w3.heap.size) (by omega) _ _, (hb5.setCell (p := ⟨w3.heap.size, 0, none⟩) (by dsimp only; omega) _).setCell (p := ⟨w3.heap.size, 1, none⟩) (by dsimp only; omega) _⟩
          clear hs5 hb5 h5 s0 s1 u0 u1
          go_wp2_with (fail)
          exact ⟨⟨k + 1, by go_num, by omega, HN⟩, by simp [intOf]; omega⟩
    · obtain rfl : k = l.length := by omega
      have i1 : ¬ (l.length : Int) < l.length := by omega
      rw [List.take_length] at HR
      rw [HRR.out] at HR
      have s0 := HR.out.sum.c0
      have s1 := HR.out.sum.c1
      have q0 := HR.out.res.c0
      have q1 := HR.out.res.c1
      have z0 := HR.out.res.frozen 0
      have z1 := HR.out.res.frozen 1
      have hbel := HR.out.bel
      dsimp only at s0 s1 q0 q1
      go_wp2_with (fail)
      refine bodyPost_ret (v := .agg #[.int .i64 R1, .int .i64 R2]) (by simp [results, Tryz.results86, go_sem, q0, q1]) rfl ⟨rfl, ?_⟩
      exact (hbel.setCell (p := ⟨w.heap.size, 0, none⟩) (Nat.le_refl _) _).setCell (p := ⟨w.heap.size, 1, none⟩) (Nat.le_refl _) _
end Go.Proofs.YthakeeinhgfbbaaGreat
