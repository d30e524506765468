/-
  Package poly: truncated.
-/
import Derived.Test.YthakeeinhgfbbaaGreatTx
import Derived.Test.YthakeeinhgfbbaaGreatPredL
import Derived.OwnWalk
import Derived.RangeFuncBox
import Derived.Laws.AppendOwn
namespace Go.Proofs.YthakeeinhgfbbaaGreat
open Go.ChangeShapes Go.WideShapes Go.ChangeAt Go.RowKit
set_option linter.unusedVariables false
set_option linter.unusedSimpArgs false
set_option maxRecDepth 100000

attribute [local irreducible] Calls
section
variable {P : Program}
theorem tupon_enter {w w1 : World} {K : Value → World → Prop} {r : Result Next} {f : FuncId} {args : Array Value} (hr : r = .ok (.enter f args) w1) (hw : w1 = w) (h : Calls P f args w fun e w'' => ∃ v, e = .returned v ∧ Below w.heap.size w w'' ∧ K v w'') : uponP P w K r := by
  subst hr
  exact ⟨hw, h⟩
theorem tupon_value {w w1 : World} {K : Value → World → Prop} {r : Result Next} {v : Value} (hr : r = .ok (.value v) w1) (hB : Below w.heap.size w w1) (h : K v w1) : uponP P w K r := by
  subst hr
  exact ⟨hB, h⟩
end
theorem info_t : (Tryz.prog.info? 63).map (fun i => (i.zero, i.size, i.bytes)) = some (some (.agg #[.int .i64 0, .int .u8 0, .int .u8 0, .int .u8 0, .int .u8 0, .int .u8 0, .int .u8 0]), 7, 16) := by kernel_rfl
theorem new_t (w : World) (ka a0 a1 a2 a3 a4 a5 : Int) : ∀ j u, ([.int .i64 ka, .int .u8 a0, .int .u8 a1, .int .u8 a2, .int .u8 a3, .int .u8 a4, .int .u8 a5] : List Value)[j]? = some u → (w.alloc (.cells #[.int .i64 ka, .int .u8 a0, .int .u8 a1, .int .u8 a2, .int .u8 a3, .int .u8 a4, .int .u8 a5] 63)).cell? ((⟨w.heap.size, 0, none⟩ : Addr).add j) = some u := by
  intro j u hj
  have hk : j < 7 := by have := (List.getElem?_eq_some_iff.1 hj).1; simpa using this
  match j, hk, hj with
  | 0, _, hj => cases hj; simp [Addr.add, go_sem]
  | 1, _, hj => cases hj; simp [Addr.add, go_sem]
  | 2, _, hj => cases hj; simp [Addr.add, go_sem]
  | 3, _, hj => cases hj; simp [Addr.add, go_sem]
  | 4, _, hj => cases hj; simp [Addr.add, go_sem]
  | 5, _, hj => cases hj; simp [Addr.add, go_sem]
  | 6, _, hj => cases hj; simp [Addr.add, go_sem]
theorem one_t (ka a0 a1 a2 a3 a4 a5 : Int) : ∀ u ∈ ([.int .i64 ka, .int .u8 a0, .int .u8 a1, .int .u8 a2, .int .u8 a3, .int .u8 a4, .int .u8 a5] : List Value), u.oneCell' = true := by
  intro u hu
  simp at hu
  rcases hu with rfl | rfl | rfl | rfl | rfl | rfl | rfl <;> rfl
/-- An interval in a block. -/
def IvC (W : World) (b : Nat) (p : Int × Int) : Prop := W.heap[b]? = some (.cells #[.int .i64 p.1, .int .i64 p.2] 24 (0, 0))
theorem IvC.lt {W : World} {b : Nat} {p : Int × Int} (h : IvC W b p) : b < W.heap.size := (Array.getElem?_eq_some_iff.1 h).1
theorem IvC.c0 {W : World} {b : Nat} {p : Int × Int} (h : IvC W b p) : W.cell? ⟨b, 0, none⟩ = some (.int .i64 p.1) := by simp [World.cell?, show W.heap[b]? = _ from h]
theorem IvC.c1 {W : World} {b : Nat} {p : Int × Int} (h : IvC W b p) : W.cell? ⟨b, 1, none⟩ = some (.int .i64 p.2) := by simp [World.cell?, show W.heap[b]? = _ from h]
theorem IvC.frozen {W : World} {b : Nat} {p : Int × Int} (h : IvC W b p) (o : Nat) : W.frozen? ⟨b, o, none⟩ = false := by simp [World.frozen?, show W.heap[b]? = _ from h]
theorem IvC.below {W W' : World} {b B : Nat} {p : Int × Int} (h : IvC W b p) (hB : Below B W W') (hb : b < B) : IvC W' b p := (hB.block b hb).trans h
theorem IvC.grow {W W' : World} {b : Nat} {p : Int × Int} (h : IvC W b p) (hB : Below W.heap.size W W') : IvC W' b p := h.below hB h.lt
theorem IvC.set {W : World} {b : Nat} {p : Int × Int} (h : IvC W b p) (x y : Int) : IvC ((W.setCell ⟨b, 0, none⟩ (.int .i64 x)).setCell ⟨b, 1, none⟩ (.int .i64 y)) b (x, y) := cellsT_set (o := 1) (u := .int .i64 y) (cellsT_set (o := 0) (u := .int .i64 x) h)
theorem IvC.other {W : World} {b c : Nat} {p : Int × Int} (h : IvC W b p) (hne : b ≠ c) (u v : Value) : IvC ((W.setCell ⟨c, 0, none⟩ u).setCell ⟨c, 1, none⟩ v) b p := (heapT_set (k := b) (a := ⟨c, 1, none⟩) hne).trans ((heapT_set (k := b) (a := ⟨c, 0, none⟩) hne).trans h)
theorem own_set2 {W : World} {B n size c : Nat} {e : TypeId} {v : Value} {xs : List Value} (h : W.ownsRow B e size v n xs) (hc : c < B) (x y : Value) : ((W.setCell ⟨c, 0, none⟩ x).setCell ⟨c, 1, none⟩ y).ownsRow B e size v n xs := by
  refine h.kept (row := some c) ⟨rfl, rfl, rfl, by simp, fun k hk hne => ?_⟩ ?_
  · have : k ≠ c := fun e => hne (by rw [e])
    exact (heapT_set (k := k) (a := ⟨c, 1, none⟩) this).trans (heapT_set (k := k) (a := ⟨c, 0, none⟩) this)
  · cases hv : v.ownBlock with
    | none => exact .inl rfl
    | some k =>
      refine .inr ?_
      have := (h.lt k hv).1
      intro e
      have e := Option.some.inj e
      omega
theorem grown_belowT {W W' : World} (h : Below W.heap.size W W') : W.grownBy W' none := ⟨h.os, h.tape, h.output, h.size, fun k hk _ => h.block k hk⟩
theorem own_keptT {W W' : World} {B n size : Nat} {e : TypeId} {v : Value} {xs : List Value} (h : W.ownsRow B e size v n xs) (hB : Below W.heap.size W W') : W'.ownsRow B e size v n xs := by
  refine h.kept (grown_belowT hB) ?_
  cases v.ownBlock with
  | none => exact .inl rfl
  | some k => exact .inr (by simp)
def keptP (deg : Int) (l : List Tm) : List Tm := l.filter fun t => decide (degE t.2 ≤ deg)
def addR (m : Int × Int) (t : Tm) : Int × Int := (m.1 + (trg t).1, m.2 + (trg t).2)
def missP (deg : Int) (m : Int × Int) (l : List Tm) : Int × Int := (l.filter fun t => !decide (degE t.2 ≤ deg)).foldl addR m
theorem kept_in {deg : Int} {l : List Tm} {k : Nat} {x : Tm} (hx : l[k]? = some x) (h : degE x.2 ≤ deg) : keptP deg (l.take (k + 1)) = keptP deg (l.take k) ++ [x] := by
  unfold keptP
  rw [List.take_add_one, hx, List.filter_append]
  simp [h]
theorem kept_out {deg : Int} {l : List Tm} {k : Nat} {x : Tm} (hx : l[k]? = some x) (h : ¬ degE x.2 ≤ deg) : keptP deg (l.take (k + 1)) = keptP deg (l.take k) := by
  unfold keptP
  rw [List.take_add_one, hx, List.filter_append]
  simp [h]
theorem miss_in {deg : Int} {m : Int × Int} {l : List Tm} {k : Nat} {x : Tm} (hx : l[k]? = some x) (h : degE x.2 ≤ deg) : missP deg m (l.take (k + 1)) = missP deg m (l.take k) := by
  unfold missP
  rw [List.take_add_one, hx, List.filter_append]
  simp [h]
theorem miss_out {deg : Int} {m : Int × Int} {l : List Tm} {k : Nat} {x : Tm} (hx : l[k]? = some x) (h : ¬ degE x.2 ≤ deg) : missP deg m (l.take (k + 1)) = addR (missP deg m (l.take k)) x := by
  unfold missP
  rw [List.take_add_one, hx, List.filter_append]
  simp [h, List.foldl_append]
theorem kept_len (deg : Int) (l : List Tm) : (keptP deg l).length ≤ l.length := List.length_filter_le _ _
theorem trg_bd {t : Tm} (h : Num t.1) : -2147483648 ≤ (trg t).1 ∧ (trg t).1 ≤ (trg t).2 ∧ (trg t).2 ≤ 2147483648 := by
  unfold Num at h
  unfold trg
  split
  · dsimp only; omega
  · split
    · dsimp only; omega
    · dsimp only; omega
/-- What is missing stays bounded and in order. -/
def MB (k : Nat) (m : Int × Int) : Prop := -(2147483648 * ((k : Int) + 1)) ≤ m.1 ∧ m.1 ≤ m.2 ∧ m.2 ≤ 2147483648 * ((k : Int) + 1)
theorem mb_next {k : Nat} {m : Int × Int} {t : Tm} (h : MB k m) (ht : Num t.1) : MB (k + 1) (addR m t) := by
  have := trg_bd ht
  unfold MB addR at *
  dsimp only
  push_cast
  omega
theorem mb_up {k : Nat} {m : Int × Int} (h : MB k m) : MB (k + 1) m := by
  unfold MB at *
  push_cast
  omega
def CapOk (v : Value) : Prop := ∃ p n c, v = .slice p n c ∧ n ≤ c ∧ (p = none → c = 0)
theorem capok_own {W : World} {B n size : Nat} {e : TypeId} {v : Value} {xs : List Value} (h : W.ownsRow B e size v n xs) : CapOk v := by
  rcases h.2 with ⟨rfl, _⟩ | ⟨g, cap, cur, rfl, _, _, hle, _⟩
  · exact ⟨none, 0, 0, rfl, Nat.le_refl _, fun _ => rfl⟩
  · exact ⟨_, _, _, rfl, hle, by simp⟩
/-- What lies in blocks from B on. -/
def NewB (B : Nat) (u : Value) : Prop := CapOk u ∧ ∀ b, u.ownBlock = some b → B ≤ b
theorem newb_nil (B : Nat) : NewB B (.slice none 0 0) := ⟨⟨none, 0, 0, rfl, Nat.le_refl _, fun _ => rfl⟩, fun b h => by simp [Value.ownBlock] at h⟩
/-- Truncation: the terms kept and the remainder. -/
def newR (m : Int × Int) : Int × Int := (mkLo m.1 m.2, mkHi m.1 m.2)
def entR (m : Int × Int) : Bool := (m.1 == -2147483648) && (m.2 == 2147483648)
def truncP (l : List Tm) (deg : Int) (m : Int × Int) : List Tm × (Int × Int) :=
  if l.any noNum = true then ([], (-2147483648, 2147483648)) else if 100 < (keptP deg l).length ∨ entR (newR (missP deg m l)) = true then ([], (-2147483648, 2147483648)) else (keptP deg l, newR (missP deg m l))
/-- The loop's relation. -/
structure TrI (w : World) (l : List Tm) (deg : Int) (m : Int × Int) (k : Nat) (u : Value) (wr : World) : Prop where
  row : wr.ownsRow (w.heap.size + 2) 63 7 u (keptP deg (l.take k)).length (ct (keptP deg (l.take k)))
  mis : IvC wr w.heap.size (missP deg m (l.take k))
  res : IvC wr (w.heap.size + 1) (0, 0)
  bd : MB k (missP deg m (l.take k))
  bel : Below w.heap.size w wr
  siz : w.heap.size + 2 ≤ wr.heap.size
set_option maxHeartbeats 8000000 in
theorem trunc_ok (v : Value) (l : List Tm) (deg x y : Int) (w : World) (hv : Tx w v l) (ht : ∀ t ∈ l, TV t) (hm : MB 0 (x, y)) (hsm : l.length ≤ 100000) :
    Calls Tryz.prog 97 #[v, .int .i64 deg, .agg #[.int .i64 x, .int .i64 y]] w fun e w' => ∃ u, e = .returned (.tuple #[u, .agg #[.int .i64 (truncP l deg (x, y)).2.1, .int .i64 (truncP l deg (x, y)).2.2]]) ∧ Tx w' u (truncP l deg (x, y)).1 ∧ NewB w.heap.size u ∧ Below w.heap.size w w' := by
  obtain ⟨R, hR⟩ : ∃ R, truncP l deg (x, y) = R := ⟨_, rfl⟩
  rw [hR]
  have HRR := Lib.hid hR
  clear hR
  obtain ⟨i0, hi, hz0, hz1, hz2⟩ := info_parts info_t
  obtain ⟨p, c, rfl⟩ := hv.cut
  have HV := Lib.hid hv
  have HT := Lib.hid ht
  have HM := Lib.hid hm
  have hba : Below w.heap.size w ((w.alloc (.cells #[.int .i64 x, .int .i64 y] 24)).alloc (.cells #[.int .i64 0, .int .i64 0] 24)) := ((Below.refl _ _).alloc (Nat.le_refl _) _).alloc (by simp) _
  have hI0 : IvC ((w.alloc (.cells #[.int .i64 x, .int .i64 y] 24)).alloc (.cells #[.int .i64 0, .int .i64 0] 24)) w.heap.size (x, y) := (Below.heap_alloc _ _ _ (by simp)).trans (World.alloc_heap_new w _)
  have hI1 : IvC ((w.alloc (.cells #[.int .i64 x, .int .i64 y] 24)).alloc (.cells #[.int .i64 0, .int .i64 0] 24)) (w.heap.size + 1) (0, 0) := by
    have e := World.alloc_heap_new (w.alloc (.cells #[.int .i64 x, .int .i64 y] 24)) (.cells #[.int .i64 0, .int .i64 0] 24)
    rw [World.size_alloc] at e
    exact e
  have HI0 := Lib.hid hI0
  have HI1 := Lib.hid hI1
  clear hv ht hm hI0 hI1
  cases hnum : l.any noNum with
  | true =>
    have hr : R = ([], (-2147483648, 2147483648)) := by rw [← HRR.out]; unfold truncP; rw [if_pos hnum]
    subst hr
    have HC := Lib.hid (fun (w' : World) (hB : Below w.heap.size w w') => nums_ok _ l w' (HV.out.grow hB) HT.out)
    rw [hnum] at HC
    clear hnum
    go_enter Tryz.func97, Tryz.ntmps97
    go_wp2_with (fail)
    refine (HC.out _ hba).mono ?_
    rintro e1 w1 ⟨rfl, hB1⟩
    have hB1' := below_then hba hB1
    have hres1 := HI1.out.grow hB1
    go_wp2_with (fail)
    refine (iv_entire _).mono ?_
    rintro e3 w3 ⟨rfl, hB3⟩
    have hres3 := hres1.grow hB3
    have qs0 := hres3.c0
    have qs1 := hres3.c1
    have qz0 := hres3.frozen 0
    have qz1 := hres3.frozen 1
    have hB3' := hB1'.trans (hB3.mono hB1'.size)
    go_wp2_with (fail)
    refine bodyPost_ret (v := .tuple #[.slice none 0 0, .agg #[.int .i64 (-2147483648), .int .i64 2147483648]]) (by simp [results, Tryz.results97, go_sem, qs0, qs1]) rfl ⟨_, rfl, Tx.nil _ _ _, newb_nil _, ?_⟩
    exact (hB3'.setCell (p := ⟨w.heap.size + 1, 0, none⟩) (Nat.le_succ _) _).setCell (p := ⟨w.heap.size + 1, 1, none⟩) (Nat.le_succ _) _
  | false =>
    have HNN : Hid (∀ t ∈ l, Num t.1) := Lib.hid fun t h => by
      have := List.any_eq_false.1 hnum t h
      simpa [noNum] using this
    have HC := Lib.hid (fun (w' : World) (hB : Below w.heap.size w w') => nums_ok _ l w' (HV.out.grow hB) HT.out)
    rw [hnum] at HC
    clear hnum
    go_enter Tryz.func97, Tryz.ntmps97
    go_wp2_with (fail)
    refine (HC.out _ hba).mono ?_
    rintro e1 w1 ⟨rfl, hB1⟩
    have hBW := below_then hba hB1
    have hsz := hB1.size
    simp only [World.size_alloc] at hsz
    have J0 := Lib.hid (HI0.out.grow hB1)
    have J1 := Lib.hid (HI1.out.grow hB1)
    clear HI0 HI1 HC
    go_wp2_with (fail)
    go_loopw [8, 18] (fun u i wr => ∃ k : Nat, i = .int .i64 k ∧ k ≤ l.length ∧ Hid (TrI w l deg (x, y) k u wr)) (fun _ i _ => l.length - (intOf i).toNat)
    case atStart => exact ⟨0, rfl, Nat.zero_le _, Lib.hid ⟨by simpa [keptP, ct] using World.ownsRow_nil w1 _ _ _, by simpa [missP] using J0.out, J1.out, HM.out, hBW, hsz⟩⟩
    case round =>
      obtain ⟨k, rfl, hk, HR⟩ := hrel
      by_cases hlt : k < l.length
      · have i1 : (k : Int) < l.length := by omega
        obtain ⟨t, hx⟩ : ∃ t, l[k]? = some t := ⟨_, List.getElem?_eq_getElem hlt⟩
        have htv := HT.out t (List.mem_of_getElem? hx)
        have htn := HNN.out t (List.mem_of_getElem? hx)
        obtain ⟨ka, a0, a1, a2, a3, a4, a5, rfl⟩ := six_at htv
        obtain ⟨b, o, hp, hb, rd⟩ := HV.out.rd7 hx
        subst hp
        have g0 : Grown w := ⟨wr, HR.out.bel⟩
        obtain ⟨f0, f1, f2, f3, f4, f5, f6⟩ := rd ⟨wr, HR.out.bel⟩
        dsimp only at f0 f1 f2 f3 f4 f5 f6
        have hba2 : Below wr.heap.size wr (wr.alloc (.cells #[.int .i64 ka, .int .u8 a0, .int .u8 a1, .int .u8 a2, .int .u8 a3, .int .u8 a4, .int .u8 a5] 63)) := (Below.refl _ _).alloc (Nat.le_refl _) _
        have HD := Lib.hid (fun w => degree_ok [a0, a1, a2, a3, a4, a5] w htv.1)
        rw [show valE [a0, a1, a2, a3, a4, a5] = .agg #[.int .u8 a0, .int .u8 a1, .int .u8 a2, .int .u8 a3, .int .u8 a4, .int .u8 a5] from rfl] at HD
        obtain ⟨D, hD⟩ : ∃ D, degE [a0, a1, a2, a3, a4, a5] = D := ⟨_, rfl⟩
        rw [hD] at HD
        have HX := Lib.hid hx
        have HDD := Lib.hid hD
        have HTV := Lib.hid htv
        have HTN := Lib.hid htn
        clear rd hx hD htv htn g0
        by_cases hd : D ≤ deg
        · go_wp2_with (fail)
          refine (HD.out _).mono ?_
          rintro e2 w2 ⟨rfl, hB2⟩
          obtain ⟨kc2, kf2⟩ := bcell hB2
          have r0 := kc2 wr.heap.size 0 (by simp)
          have r1 := kc2 wr.heap.size 1 (by simp)
          have r2 := kc2 wr.heap.size 2 (by simp)
          have r3 := kc2 wr.heap.size 3 (by simp)
          have r4 := kc2 wr.heap.size 4 (by simp)
          have r5 := kc2 wr.heap.size 5 (by simp)
          have r6 := kc2 wr.heap.size 6 (by simp)
          simp [go_sem] at r0 r1 r2 r3 r4 r5 r6
          have hB2' := below_then hba2 hB2
          have hrow := own_keptT HR.out.row hB2'
          have hkl : (keptP deg (l.take k)).length ≤ l.length := Nat.le_trans (kept_len _ _) (by rw [List.length_take]; omega)
          have hsz2 := hB2'.size
          have hsz3 := HR.out.siz
          clear kc2 kf2
          go_wp2_with (at_builtin; refine wpList_append_own _ rfl (.tmp 27) (.tmp 29) 22 rfl (w.heap.size + 2) 63 i0 (.agg #[.int .i64 0, .int .u8 0, .int .u8 0, .int .u8 0, .int .u8 0, .int .u8 0, .int .u8 0]) 7 16 Tryz.underlying22 hi hz0 hz1 hz2 rfl (by decide) _ (keptP deg (l.take k)).length _ rfl (hrow.alloc _) ⟨w2.heap.size, 0, none⟩ 1 1 [.int .i64 ka, .int .u8 a0, .int .u8 a1, .int .u8 a2, .int .u8 a3, .int .u8 a4, .int .u8 a5] rfl rfl (new_t _ _ _ _ _ _ _ _) (one_t _ _ _ _ _ _ _) (by unfold maxLen; omega) (by omega) (by simp only [World.size_alloc]; omega) ?_)
          intro v' w6 hown' hgrow _
          have hB6 : Below (w.heap.size + 2) wr w6 := Below.grown ((hB2'.mono HR.out.siz).alloc (by omega) _) hgrow (by simp only [World.size_alloc]; omega) (fun k hk => (HR.out.row.lt k hk).1)
          have hk1 := kept_in HX.out (deg := deg) (by dsimp only; rw [HDD.out]; exact hd)
          have hm1 := miss_in HX.out (deg := deg) (m := (x, y)) (by dsimp only; rw [HDD.out]; exact hd)
          have HN : Hid (TrI w l deg (x, y) (k + 1) v' w6) := Lib.hid ⟨by rw [hk1, List.length_append, ct_snoc]; exact hown', by rw [hm1]; exact HR.out.mis.below hB6 (by omega), HR.out.res.below hB6 (by omega), by rw [hm1]; exact mb_up HR.out.bd, HR.out.bel.trans (hB6.mono (by omega)), Nat.le_trans HR.out.siz hB6.size⟩
          clear hown' hgrow hk1 hm1
          go_wp2_with (fail)
          go_roundw
          case rel => exact ⟨k + 1, by go_num, by omega, HN⟩
          case measure => simp [intOf]; omega
        · have hd' : deg < D := by omega
          have hk1 := kept_out HX.out (deg := deg) (by dsimp only; rw [HDD.out]; exact hd)
          have hm1 := miss_out HX.out (deg := deg) (m := (x, y)) (by dsimp only; rw [HDD.out]; exact hd)
          have hbd := HR.out.bd
          have hbn := mb_next HR.out.bd HTN.out
          have htb := trg_bd HTN.out
          have HTR := Lib.hid (fun w => trg_ok ka a0 a1 a2 a3 a4 a5 w HTV.out HTN.out)
          have hmis := HR.out.mis
          rw [← hm1] at hbn
          unfold addR at hm1
          obtain ⟨⟨r, q⟩, hrq⟩ : ∃ R, trg (ka, [a0, a1, a2, a3, a4, a5]) = R := ⟨_, rfl⟩
          obtain ⟨⟨p1, p2⟩, hpp⟩ : ∃ R, missP deg (x, y) (l.take k) = R := ⟨_, rfl⟩
          rw [hrq] at HTR htb hm1
          rw [hpp] at hbd hmis hm1
          unfold MB at hbd
          dsimp only at HTR htb hm1 hbd
          have HPL := Lib.hid (fun w => plus_ok p1 p2 r q w (by omega) (by omega) (by omega) (by omega))
          have HM1 := Lib.hid hm1
          have HK1 := Lib.hid hk1
          have HBN := Lib.hid hbn
          clear hm1 hk1 hbd hbn htb hrq hpp
          go_wp2_with (fail)
          refine (HD.out _).mono ?_
          rintro e2 w2 ⟨rfl, hB2⟩
          have hB2' := below_then hba2 hB2
          obtain ⟨kc2, kf2⟩ := bcell hB2
          have r0 := kc2 wr.heap.size 0 (by simp)
          have r1 := kc2 wr.heap.size 1 (by simp)
          have r2 := kc2 wr.heap.size 2 (by simp)
          have r3 := kc2 wr.heap.size 3 (by simp)
          have r4 := kc2 wr.heap.size 4 (by simp)
          have r5 := kc2 wr.heap.size 5 (by simp)
          have r6 := kc2 wr.heap.size 6 (by simp)
          simp [go_sem] at r0 r1 r2 r3 r4 r5 r6
          have hsz2 := hB2.size
          simp only [World.size_alloc] at hsz2
          have hl2 : wr.heap.size < w2.heap.size := by omega
          have t0 := fun g : Grown w2 => (g.cell (o := 0) hl2).trans r0
          have t1 := fun g : Grown w2 => (g.cell (o := 1) hl2).trans r1
          have t2 := fun g : Grown w2 => (g.cell (o := 2) hl2).trans r2
          have t3 := fun g : Grown w2 => (g.cell (o := 3) hl2).trans r3
          have t4 := fun g : Grown w2 => (g.cell (o := 4) hl2).trans r4
          have t5 := fun g : Grown w2 => (g.cell (o := 5) hl2).trans r5
          have t6 := fun g : Grown w2 => (g.cell (o := 6) hl2).trans r6
          have m0 := fun g : Grown w2 => ((hmis.grow hB2').grow g.h).c0
          have m1 := fun g : Grown w2 => ((hmis.grow hB2').grow g.h).c1
          clear kc2 kf2 r0 r1 r2 r3 r4 r5 r6
          go_wp2_with (fail)
          refine region_pred_l (lk [(31, fun u _ => u = .agg #[.int .i64 p1, .int .i64 p2]), (32, fun u _ => u = .agg #[.int .i64 ka, .int .u8 a0, .int .u8 a1, .int .u8 a2, .int .u8 a3, .int .u8 a4, .int .u8 a5]), (33, fun u _ => u = .agg #[.int .i64 r, .int .i64 q]), (34, fun u _ => u = .agg #[.int .i64 (p1 + r), .int .i64 (p2 + q)])]) 4 _ rfl (by kernel_rfl) (by kernel_rfl) (by kernel_rfl) (lk_steady _ ⟨steady_eq _, steady_eq _, steady_eq _, steady_eq _, trivial⟩) ?_ ?_
          · refine ⟨?_, ?_, ?_, ?_, ?_, trivial⟩
            · intro _
              refine ob_plain [5] rfl rfl fun aa g h => ?_
              have x0 := seen_out (v := .pointer (some ⟨w.heap.size, 0, none⟩)) rfl rfl h.1
              have e0 := getD_of x0
              exact tupon_value (v := .agg #[.int .i64 p1, .int .i64 p2]) (by simp [go_sem, e0, x0, m0 g, m1 g]) (Below.refl _ _) rfl
            · intro _
              refine ob_plain [10] rfl rfl fun aa g h => ?_
              have x0 := seen_out (v := .pointer (some ⟨wr.heap.size, 0, none⟩)) rfl rfl h.1
              have e0 := getD_of x0
              exact tupon_value (v := .agg #[.int .i64 ka, .int .u8 a0, .int .u8 a1, .int .u8 a2, .int .u8 a3, .int .u8 a4, .int .u8 a5]) (by simp [go_sem, e0, x0, t0 g, t1 g, t2 g, t3 g, t4 g, t5 g, t6 g]) (Below.refl _ _) rfl
            · intro _
              refine ob_plain [32] rfl rfl fun aa g h => ?_
              obtain ⟨_, x0, rfl⟩ := seen_in rfl h.1
              have e0 := getD_of x0
              refine tupon_enter (f := 107) (args := #[.agg #[.int .i64 ka, .int .u8 a0, .int .u8 a1, .int .u8 a2, .int .u8 a3, .int .u8 a4, .int .u8 a5]]) (by simp [go_sem, e0, x0]) rfl ?_
              exact (HTR.out g.w).mono fun e w' ⟨he, hB⟩ => ⟨_, he, hB, rfl⟩
            · intro _
              refine ob_plain [31, 33] rfl rfl fun aa g h => ?_
              obtain ⟨_, x0, rfl⟩ := seen_in rfl h.1
              have e0 := getD_of x0
              obtain ⟨_, x1, rfl⟩ := seen_in rfl h.2.1
              have e1 := getD_of x1
              refine tupon_enter (f := 106) (args := #[.agg #[.int .i64 p1, .int .i64 p2], .agg #[.int .i64 r, .int .i64 q]]) (by simp [go_sem, e0, x0, e1, x1]) rfl ?_
              exact (HPL.out g.w).mono fun e w' ⟨he, hB⟩ => ⟨_, he, hB, rfl⟩
            · exact fun h => absurd rfl h
          rintro w5 hB5 _ rfl _ rfl _ rfl _ rfl
          simp only [Act.put, List.setIfInBounds_toArray, List.set_cons_succ, List.set_cons_zero]
          have hB5' := below_then hB2' hB5
          have hm5 := hmis.grow hB5'
          have c0 := hm5.c0
          have c1 := hm5.c1
          have z0 := hm5.frozen 0
          have z1 := hm5.frozen 1
          refine ⟨_, by simp [go_sem, c0, c1, z0, z1]; rfl, ?_⟩
          have hs5 : w.heap.size + 2 ≤ w5.heap.size := Nat.le_trans HR.out.siz hB5'.size
          have HN : Hid (TrI w l deg (x, y) (k + 1) _ ((w5.setCell ⟨w.heap.size, 0, none⟩ (.int .i64 (p1 + r))).setCell ⟨w.heap.size, 1, none⟩ (.int .i64 (p2 + q)))) := Lib.hid ⟨by rw [HK1.out]; exact own_set2 (own_keptT HR.out.row hB5') (by omega) _ _, by rw [HM1.out]; exact hm5.set _ _, (HR.out.res.grow hB5').other (by omega) _ _, HBN.out, ((HR.out.bel.trans (hB5'.mono HR.out.bel.size)).setCell (p := ⟨w.heap.size, 0, none⟩) (Nat.le_refl _) _).setCell (p := ⟨w.heap.size, 1, none⟩) (Nat.le_refl _) _, by simpa using hs5⟩
          clear c0 c1 z0 z1 m0 m1 t0 t1 t2 t3 t4 t5 t6 hm5 hmis
          go_wp2_with (fail)
          go_roundw
          case rel => exact ⟨k + 1, by go_num, by omega, HN⟩
          case measure => simp [intOf]; omega
      · obtain rfl : k = l.length := by omega
        have hrow := HR.out.row
        have hmis := HR.out.mis
        have hres := HR.out.res
        have hbd := HR.out.bd
        have hbel := HR.out.bel
        have hsz3 := HR.out.siz
        rw [List.take_of_length_le (Nat.le_refl _)] at hrow hmis hbd
        have hkl := kept_len deg l
        have htr : truncP l deg (x, y) = if 100 < (keptP deg l).length ∨ entR (newR (missP deg (x, y) l)) = true then ([], (-2147483648, 2147483648)) else (keptP deg l, newR (missP deg (x, y) l)) := by
          unfold truncP
          rw [if_neg]
          rw [Bool.not_eq_true, List.any_eq_false]
          intro t h
          have := HNN.out t h
          simp [noNum, this]
        have h6 : ∀ t ∈ keptP deg l, t.2.length = 6 := fun t h => (HT.out t (List.mem_filter.1 h |>.1)).1.1
        have htx := Tx.own hrow (by unfold maxLen; omega) h6
        rw [HRR.out] at htr
        generalize missP deg (x, y) l = M at *
        obtain ⟨p1, p2⟩ := M
        obtain ⟨K, hK⟩ : ∃ K, keptP deg l = K := ⟨_, rfl⟩
        rw [hK] at htx hkl htr hrow h6
        unfold newR at htr
        dsimp only at htr
        obtain ⟨pc, cc, hu⟩ := htx.cut
        subst hu
        have HTX := Lib.hid htx
        have hle : p1 ≤ p2 := hbd.2.1
        have HNW := Lib.hid (fun w => iv_new p1 p2 w hle)
        have hEE := fun (a b : Int) w => iv_isent a b (entR (a, b)) w rfl
        have HEE := Lib.hid hEE
        generalize mkLo p1 p2 = n1 at *
        generalize mkHi p1 p2 = n2 at *
        have c0 := hmis.c0
        have c1 := hmis.c1
        dsimp only at c0 c1
        have HRES := Lib.hid hres
        have HBEL := Lib.hid hbel
        have HTRR := Lib.hid htr
        have HROW := Lib.hid hrow
        have H6 := Lib.hid h6
        clear hrow hmis hbd htr h6 htx hK hEE hres hbel
        go_wp2_with (fail)
        refine (HNW.out _).mono ?_
        rintro e1 w2 ⟨rfl, hB2⟩
        have hres2 := HRES.out.grow hB2
        have hb2 := hB2.size
        have rs0 := hres2.c0
        have rs1 := hres2.c1
        have rz0 := hres2.frozen 0
        have rz1 := hres2.frozen 1
        have hB2' := HBEL.out.trans (hB2.mono HBEL.out.size)
        have HTX2 := Lib.hid (HTX.out.grow hB2)
        by_cases hcn : 100 < K.length
        · have hcn' : (100 : Int) < (K.length : Int) := by omega
          have hr := HTRR.out
          rw [if_pos (.inl hcn)] at hr
          subst hr
          go_wp2_with (fail)
          refine (iv_entire _).mono ?_
          rintro e3 w3 ⟨rfl, hB3⟩
          have hB23 : Below w2.heap.size w2 w3 := below_then ((Below.refl _ _).alloc (Nat.le_refl _) _) hB3
          have hres3 := hres2.grow hB23
          have qs0 := hres3.c0
          have qs1 := hres3.c1
          have qz0 := hres3.frozen 0
          have qz1 := hres3.frozen 1
          have hB3' := hB2'.trans (hB23.mono hB2'.size)
          go_wp2_with (fail)
          refine bodyPost_ret (v := .tuple #[.slice none 0 0, .agg #[.int .i64 (-2147483648), .int .i64 2147483648]]) (by simp [results, Tryz.results97, go_sem, qs0, qs1]) rfl ⟨_, rfl, Tx.nil _ _ _, newb_nil _, ?_⟩
          exact (hB3'.setCell (p := ⟨w.heap.size + 1, 0, none⟩) (Nat.le_succ _) _).setCell (p := ⟨w.heap.size + 1, 1, none⟩) (Nat.le_succ _) _
        · have hcn' : (K.length : Int) ≤ 100 := by omega
          cases hE : entR (n1, n2) with
          | true =>
            have hr := HTRR.out
            rw [if_pos (.inr hE)] at hr
            subst hr
            have HE2 := Lib.hid (fun w => HEE.out n1 n2 w)
            rw [hE] at HE2
            clear hE HEE
            go_wp2_with (fail)
            refine (HE2.out _).mono ?_
            rintro e4 w4 ⟨rfl, hB4⟩
            have hB24 : Below w2.heap.size w2 w4 := below_then ((Below.refl _ _).alloc (Nat.le_refl _) _) hB4
            have hres4 := hres2.grow hB24
            have hB4' := hB2'.trans (hB24.mono hB2'.size)
            go_wp2_with (fail)
            refine (iv_entire _).mono ?_
            rintro e3 w3 ⟨rfl, hB3⟩
            have hres3 := hres4.grow hB3
            have qs0 := hres3.c0
            have qs1 := hres3.c1
            have qz0 := hres3.frozen 0
            have qz1 := hres3.frozen 1
            have hB3' := hB4'.trans (hB3.mono hB4'.size)
            go_wp2_with (fail)
            refine bodyPost_ret (v := .tuple #[.slice none 0 0, .agg #[.int .i64 (-2147483648), .int .i64 2147483648]]) (by simp [results, Tryz.results97, go_sem, qs0, qs1]) rfl ⟨_, rfl, Tx.nil _ _ _, newb_nil _, ?_⟩
            exact (hB3'.setCell (p := ⟨w.heap.size + 1, 0, none⟩) (Nat.le_succ _) _).setCell (p := ⟨w.heap.size + 1, 1, none⟩) (Nat.le_succ _) _
          | false =>
            have hr := HTRR.out
            rw [if_neg (by rw [hE]; simp [hcn])] at hr
            subst hr
            have HE2 := Lib.hid (fun w => HEE.out n1 n2 w)
            rw [hE] at HE2
            clear hE HEE
            have s0 : (w2.alloc (.cells #[.int .i64 n1, .int .i64 n2] 24)).cell? ⟨w2.heap.size, 0, none⟩ = some (.int .i64 n1) := by simp [go_sem]
            have s1 : (w2.alloc (.cells #[.int .i64 n1, .int .i64 n2] 24)).cell? ⟨w2.heap.size, 1, none⟩ = some (.int .i64 n2) := by simp [go_sem]
            go_wp2_with (fail)
            refine (HE2.out _).mono ?_
            rintro e4 w4 ⟨rfl, hB4⟩
            have hB24 : Below w2.heap.size w2 w4 := below_then ((Below.refl _ _).alloc (Nat.le_refl _) _) hB4
            have hres4 := hres2.grow hB24
            have hB4' := hB2'.trans (hB24.mono hB2'.size)
            have j0 := (hB4.cell (p := ⟨w2.heap.size, 0, none⟩) (by simp)).trans s0
            have j1 := (hB4.cell (p := ⟨w2.heap.size, 1, none⟩) (by simp)).trans s1
            have qs0 := hres4.c0
            have qs1 := hres4.c1
            have qz0 := hres4.frozen 0
            have qz1 := hres4.frozen 1
            have hT4 := Lib.hid (HTX2.out.grow hB24)
            clear s0 s1
            go_wp2_with (fail)
            go_region
            go_wp2_with (fail)
            refine bodyPost_ret (v := .tuple #[.slice pc K.length cc, .agg #[.int .i64 n1, .int .i64 n2]]) (by simp [results, Tryz.results97, go_sem, qs0, qs1]) rfl ⟨_, rfl, ?_, ⟨capok_own HROW.out, fun b h => Nat.le_trans (by omega) (HROW.out.lt b h).1⟩, ?_⟩
            · have hr4 := own_set2 (own_keptT HROW.out (below_then hB2 hB24)) (c := w.heap.size + 1) (by omega) (.int .i64 n1) (.int .i64 n2)
              exact (Tx.own hr4 (by unfold maxLen; omega) H6.out).grow (Below.refl _ _).drew
            · exact ((hB4'.setCell (p := ⟨w.heap.size + 1, 0, none⟩) (Nat.le_succ _) _).setCell (p := ⟨w.heap.size + 1, 1, none⟩) (Nat.le_succ _) _).drew
end Go.Proofs.YthakeeinhgfbbaaGreat
