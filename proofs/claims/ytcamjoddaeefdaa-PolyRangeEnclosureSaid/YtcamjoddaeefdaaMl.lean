/-
  Package poly: Mul, Scale.
-/
import Derived.Test.YtcamjoddaeefdaaMu
namespace Go.Proofs.Ytcamjoddaeefdaa
open Go.ChangeShapes Go.WideShapes Go.ChangeAt Go.RowKit
set_option linter.unusedVariables false
set_option linter.unusedSimpArgs false
set_option maxRecDepth 100000

attribute [local irreducible] Calls
attribute [local go_sem ↓] run_min_two
def mulR (l m : List Tm) (deg : Int) : List Tm × (Int × Int) := truncP (mulP l m) (min deg 6) (missM (pairsT l m))
theorem ins_len (x : Tm) : ∀ l : List Tm, (insT x l).length ≤ l.length + 1
  | [] => by simp [insT]
  | q :: r => by
    unfold insT
    have := ins_len x r
    split
    · simp only [List.length_cons]; omega
    · split <;> simp
theorem coll_len (S : List Tm) : (collT S).length ≤ S.length := by
  have : ∀ (S l : List Tm), (S.foldl (fun l x => insT x l) l).length ≤ l.length + S.length := by
    intro S
    induction S with
    | nil => intro l; simp
    | cons x S ih =>
      intro l
      have h1 := ih (insT x l)
      have h2 := ins_len x l
      simp only [List.foldl_cons, List.length_cons] at *
      omega
  have h := this S []
  simpa [collT] using h
theorem mulP_len (l m : List Tm) : (mulP l m).length ≤ l.length * m.length := by
  unfold mulP
  refine Nat.le_trans (List.length_filter_le _ _) (Nat.le_trans (coll_len _) ?_)
  rw [List.length_map, pairs_len]
  exact Nat.le_refl _
theorem mulP_tv {l m : List Tm} (hl : ∀ t ∈ l, TV t ∧ Num t.1) (hm : ∀ t ∈ m, TV t ∧ Num t.1) (hsm : l.length * m.length ≤ 10000) : ∀ t ∈ mulP l m, TV t := by
  intro t ht
  have hc := (List.mem_filter.1 ht).1
  have hk := (coll_key ((pairsT l m).map prT) t.2).1 (List.mem_map.2 ⟨t, hc, rfl⟩)
  obtain ⟨s, hs, e1⟩ := List.mem_map.1 hk
  obtain ⟨q, hq, rfl⟩ := List.mem_map.1 hs
  have hp := pairs_mem hq
  have h1 := rise_sum (coll_rise ((pairsT l m).map prT)) t hc
  rw [coll_sum] at h1
  have h2 := sumK_bd (S := (pairsT l m).map prT) (B := 140737488355328) (by decide) (fun z hz => by
    obtain ⟨y, hy, rfl⟩ := List.mem_map.1 hz
    have := pairs_mem hy
    exact pr_bd (hl _ this.1).2 (hm _ this.2).2) t.2
  rw [h1, List.length_map, pairs_len] at h2
  have h3 : ((l.length * m.length : Nat) : Int) ≤ 10000 := by omega
  exact ⟨by rw [← e1]; exact add_ev (hl _ hp.1).1.1 (hm _ hp.2).1.1, by omega, by omega⟩
set_option maxHeartbeats 4000000 in
theorem mul_ok (v u : Value) (l m : List Tm) (deg : Int) (w : World) (hv : Tx w v l) (hu : Tx w u m) (hl : ∀ t ∈ l, TV t ∧ Num t.1) (hm : ∀ t ∈ m, TV t ∧ Num t.1) (hsm : l.length * m.length ≤ 10000) :
    Calls Try.prog 19 #[v, u, .int .i64 deg] w fun e w' => ∃ r, e = .returned (.tuple #[r, .agg #[.int .i64 (mulR l m deg).2.1, .int .i64 (mulR l m deg).2.2]]) ∧ Tx w' r (mulR l m deg).1 ∧ NewB w.heap.size r ∧ Below w.heap.size w w' := by
  have htv := mulP_tv hl hm hsm
  have hlen := Nat.le_trans (mulP_len l m) hsm
  have hmb := miss_bd (pairsT l m)
  rw [pairs_len] at hmb
  have hln : ((l.length * m.length : Nat) : Int) ≤ 10000 := by omega
  have hba : Below w.heap.size w (w.alloc (.cells #[.int .i64 0, .int .i64 0] 33)) := (Below.refl _ _).alloc (Nat.le_refl _) _
  have hI : IvC (w.alloc (.cells #[.int .i64 0, .int .i64 0] 33)) w.heap.size (0, 0) := World.alloc_heap_new w _
  have HG := Lib.hid (multiplied_ok v u l m _ (hv.grow hba) (hu.grow hba) hl hm hsm)
  obtain ⟨R, hR⟩ : ∃ R, mulR l m deg = R := ⟨_, rfl⟩
  rw [hR]
  unfold mulR at hR
  obtain ⟨M, hM⟩ : ∃ M, mulP l m = M := ⟨_, rfl⟩
  obtain ⟨⟨x, y⟩, hxy⟩ : ∃ M, missM (pairsT l m) = M := ⟨_, rfl⟩
  rw [hM, hxy] at HG
  rw [hM, hxy] at hR
  rw [hM] at htv hlen
  rw [hxy] at hmb
  dsimp only at hmb HG
  have HC := Lib.hid (fun (r : Value) (w1 : World) (h : Tx w1 r M) => trunc_ok r M (min deg 6) x y w1 h htv (by unfold MB; dsimp only; omega) (by omega))
  rw [hR] at HC
  obtain ⟨K, n1, n2⟩ := R
  dsimp only at HC ⊢
  obtain ⟨p, c, rfl⟩ := hv.cut
  obtain ⟨p', c', rfl⟩ := hu.cut
  clear hv hu hl hm hsm hR hM hxy hmb hlen htv hln
  go_enter Try.func19, Try.ntmps19
  go_wp2_with (fail)
  refine HG.out.mono ?_
  rintro e w0 ⟨r0, rfl, htx0, _, hB0⟩
  have hI0 := hI.grow hB0
  have hB0' := below_then hba hB0
  have hz0 := hB0.size
  simp only [World.size_alloc] at hz0
  have hbb : Below w0.heap.size w0 (w0.alloc (.cells #[.int .i64 x, .int .i64 y] 33)) := (Below.refl _ _).alloc (Nat.le_refl _) _
  have HC1 := Lib.hid (HC.out r0 _ (htx0.grow hbb))
  have hI00 := hI0.grow hbb
  have hB00 := hB0'.trans (hbb.mono hB0'.size)
  clear htx0
  go_wp2_with (fail)
  refine HC1.out.mono ?_
  rintro e w1 ⟨r, rfl, htx, hnew, hB⟩
  have hI1 := hI00.grow hB
  have c0 := hI1.c0
  have c1 := hI1.c1
  have z0 := hI1.frozen 0
  have z1 := hI1.frozen 1
  simp only [World.size_alloc] at hnew
  have hof := Lib.hid (htx.off hnew (c := w.heap.size) (by omega) hI1.lt (.int .i64 n1) (.int .i64 n2))
  have hB1 := hB00.trans (hB.mono hB00.size)
  have HN := Lib.hid hnew
  clear htx hnew
  go_wp2_with (fail)
  refine bodyPost_ret (v := .tuple #[r, .agg #[.int .i64 n1, .int .i64 n2]]) (by simp [results, Try.results19, go_sem, c0, c1]) rfl ⟨r, rfl, hof.out, ⟨HN.out.1, fun b h => Nat.le_trans (by omega) (HN.out.2 b h)⟩, ?_⟩
  exact (hB1.setCell (p := ⟨w.heap.size, 0, none⟩) (Nat.le_refl _) _).setCell (p := ⟨w.heap.size, 1, none⟩) (Nat.le_refl _) _
theorem constT_tv {c : Int} (h : Num c) : ∀ t ∈ constT c, TV t ∧ Num t.1 := by
  intro t ht
  unfold constT at ht
  split at ht
  · simp at ht
  · simp at ht
    subst ht
    unfold Num at *
    exact ⟨⟨⟨rfl, fun x hx => by simp at hx; omega⟩, by dsimp only; omega, by dsimp only; omega⟩, h⟩
theorem constT_len (c : Int) : (constT c).length ≤ 1 := by unfold constT; split <;> simp
set_option maxHeartbeats 4000000 in
theorem scale_ok (v : Value) (l : List Tm) (k : Int) (w : World) (hv : Tx w v l) (hl : ∀ t ∈ l, TV t ∧ Num t.1) (hk : Num k) (hsm : l.length ≤ 10000) :
    Calls Try.prog 21 #[v, .int .i64 k] w fun e w' => ∃ r, e = .returned (.tuple #[r, .agg #[.int .i64 (mulR l (constT k) 6).2.1, .int .i64 (mulR l (constT k) 6).2.2]]) ∧ Tx w' r (mulR l (constT k) 6).1 ∧ NewB w.heap.size r ∧ Below w.heap.size w w' := by
  have hba : Below w.heap.size w (w.alloc (.cells #[.int .i64 0, .int .i64 0] 33)) := (Below.refl _ _).alloc (Nat.le_refl _) _
  have hI : IvC (w.alloc (.cells #[.int .i64 0, .int .i64 0] 33)) w.heap.size (0, 0) := World.alloc_heap_new w _
  have hlen : l.length * (constT k).length ≤ 10000 := Nat.le_trans (Nat.mul_le_mul_left _ (constT_len k)) (by omega)
  have HC := Lib.hid (fun (r : Value) (w1 : World) (h0 : Tx w1 v l) (h : Tx w1 r (constT k)) => mul_ok v r l (constT k) 6 w1 h0 h hl (constT_tv hk) hlen)
  have HK := Lib.hid (fun w => const_ok k w)
  obtain ⟨R, hR⟩ : ∃ R, mulR l (constT k) 6 = R := ⟨_, rfl⟩
  rw [hR] at HC ⊢
  obtain ⟨K, n1, n2⟩ := R
  dsimp only at HC ⊢
  have HV := Lib.hid (hv.grow hba)
  obtain ⟨p, c, rfl⟩ := hv.cut
  clear hv hl hk hsm hR hlen
  go_enter Try.func21, Try.ntmps21
  go_wp2_with (fail)
  refine (HK.out _).mono ?_
  rintro e w0 ⟨r0, rfl, htx0, hB0⟩
  have hI0 := hI.grow hB0
  have HC1 := Lib.hid (HC.out r0 w0 (HV.out.grow hB0) htx0)
  have hB0' := below_then hba hB0
  have hz0 := hB0.size
  simp only [World.size_alloc] at hz0
  clear htx0
  go_wp2_with (fail)
  refine HC1.out.mono ?_
  rintro e w1 ⟨r, rfl, htx, hnew, hB⟩
  have hI1 := hI0.grow hB
  have c0 := hI1.c0
  have c1 := hI1.c1
  have z0 := hI1.frozen 0
  have z1 := hI1.frozen 1
  have hof := Lib.hid (htx.off hnew (c := w.heap.size) (by omega) hI1.lt (.int .i64 n1) (.int .i64 n2))
  have hB1 := hB0'.trans (hB.mono hB0'.size)
  have HN := Lib.hid hnew
  clear htx hnew
  go_wp2_with (fail)
  refine bodyPost_ret (v := .tuple #[r, .agg #[.int .i64 n1, .int .i64 n2]]) (by simp [results, Try.results21, go_sem, c0, c1]) rfl ⟨r, rfl, hof.out, ⟨HN.out.1, fun b h => Nat.le_trans (by omega) (HN.out.2 b h)⟩, ?_⟩
  exact (hB1.setCell (p := ⟨w.heap.size, 0, none⟩) (Nat.le_refl _) _).setCell (p := ⟨w.heap.size, 1, none⟩) (Nat.le_refl _) _
end Go.Proofs.Ytcamjoddaeefdaa
