/-
  Jl
-/
import Derived.Test.YtbppfohcicepcaaGreatKbw
import Derived.Test.YtbppfohcicepcaaGreatKbx
import Derived.Test.YtbppfohcicepcaaGreatKby
namespace Go.Proofs.YtbppfohcicepcaaGreat
open Go.ChangeShapes Go.WideShapes Go.ChangeAt Go.RowKit
set_option linter.unusedVariables false
set_option linter.unusedSimpArgs false
set_option maxRecDepth 100000
attribute [local irreducible] Calls
set_option maxHeartbeats 4000000 in
theorem seq_ok (v u : Value) (l m : List Nd) (w : World) (hv : Nx w v l) (hu : Nx w u m) :
    Calls Tryz.prog 54 #[v, u] w fun e w' => e = .returned (.bool (decide (l = m))) ∧ Below w.heap.size w w' := by
  have hl := hv.1
  have hm := hu.1
  obtain ⟨p, c, rfl⟩ := hv.cut
  obtain ⟨q, d, rfl⟩ := hu.cut
  unfold maxLen at hl hm
  by_cases hlen : l.length = m.length
  · have HL := Lib.hid hlen
    have HV := Lib.hid hv
    have HU := Lib.hid hu
    clear hv hu
    go_enter Tryz.func54, Tryz.ntmps54
    go_wp2_with (fail)
    go_loopw [13] (fun c wr => ∃ k : Nat, c = .int .i64 k ∧ k ≤ l.length ∧ Hid (l.take k = m.take k) ∧ Below w.heap.size w wr) (fun c _ => l.length - (intOf c).toNat)
    case atStart => exact ⟨0, rfl, Nat.zero_le _, rfl, Below.refl _ _⟩
    case round =>
      obtain ⟨k, rfl, hk, ht, hB⟩ := hrel
      by_cases hlt : k < l.length
      · obtain ⟨b, o, op, n, lo, hi, rfl, hx, hb, c0, c1, c2, c3⟩ := nd_get HV.out hlt hB
        obtain ⟨b', o', op', n', lo', hi', rfl, hx', hb', d0, d1, d2, d3⟩ := nd_get HU.out (k := k) (by omega) hB
        have hltm : k < m.length := by omega
        have HX := Lib.hid hx
        have HX' := Lib.hid hx'
        clear hx hx'
        have hsz := hB.size
        by_cases hxy : (⟨op, n, lo, hi⟩ : Nd) = ⟨op', n', lo', hi'⟩
        · cases hxy
          go_wp2_with (fail)
          go_quiet (fail)
          go_wp2_with (fail)
          go_roundw
          case rel => exact ⟨k + 1, by go_num, by omega, take_succ_eq ht.out HX.out HX'.out rfl, below_drewN hB _⟩
          case measure => simp [intOf]; omega
        · have hne : decide (l = m) = false := by
            rw [decide_eq_false_iff_not]
            intro e
            rw [e, HX'.out] at HX
            have := Option.some.inj HX.out
            exact hxy this.symm
          by_cases e0 : op = op'
          · subst e0
            by_cases e1 : n = n'
            · subst e1
              by_cases e2 : lo = lo'
              · subst e2
                have e3 : (hi == hi') = false := by rw [beq_eq_false_iff_ne]; exact fun e => hxy (by rw [e])
                clear hxy
                go_wp2_with (fail)
                go_quiet (fail)
                go_wp2_with (fail)
                go_ret
                exact ⟨ret_bool hne.symm, below_drewN hB _⟩
              · have f2 : (lo == lo') = false := by rw [beq_eq_false_iff_ne]; exact e2
                clear hxy e2
                go_wp2_with (fail)
                go_quiet (fail)
                go_wp2_with (fail)
                go_ret
                exact ⟨ret_bool hne.symm, below_drewN hB _⟩
            · have f1 : (n == n') = false := by rw [beq_eq_false_iff_ne]; exact e1
              clear hxy e1
              go_wp2_with (fail)
              go_quiet (fail)
              go_wp2_with (fail)
              go_ret
              exact ⟨ret_bool hne.symm, below_drewN hB _⟩
          · have f0 : (op == op') = false := by rw [beq_eq_false_iff_ne]; exact e0
            clear hxy e0
            go_wp2_with (fail)
            go_quiet (fail)
            go_wp2_with (fail)
            go_ret
            exact ⟨ret_bool hne.symm, below_drewN hB _⟩
      · obtain rfl : k = l.length := by omega
        go_wp2_with (fail)
        go_ret
        have hT := ht.out
        have hT' := HL.out
        refine ⟨ret_bool ?_, hB⟩
        rw [List.take_of_length_le (Nat.le_refl _), List.take_of_length_le (by omega)] at hT
        simp [hT]
  · have hne : decide (l = m) = false := by
      rw [decide_eq_false_iff_not]
      intro e
      exact hlen (by rw [e])
    have hlt : ((l.length : Int) != (m.length : Int)) = true := by simp; omega
    go_enter Tryz.func54, Tryz.ntmps54
    go_wp2_with (fail)
    go_ret
    exact ⟨ret_bool hne.symm, Below.refl _ _⟩
set_option maxHeartbeats 8000000 in
theorem deriv_own (pn : Option Addr) (nn cn : Nat) (vf xv : Value) (t1 t2 : Int) (X : List (Int × Int)) (N : Int) (ts : List Ex) (w : World) (hf : Lx NxO w vf (ts.map pre)) (hxv : Vx w xv X) (hN : (X.length : Int) = N) (hvx : ∀ p ∈ X, VI p.1 p.2) (hvt : VI t1 t2) (he : ∀ e ∈ ts, EV N e) (hsm : ∀ e ∈ ts, (pre e).length ≤ 200) (h6 : ts.length ≤ 6) (R : List (Int × Int)) (hR : ts.map (evT X (t1, t2)) = R) :
    Calls Tryz.prog 53 #[.agg #[.slice pn nn cn, vf], xv, .agg #[.int .i64 t1, .int .i64 t2]] w fun en w' => ∃ u, en = .returned u ∧ w'.ownsRow w.heap.size 26 2 u R.length (cr encB R) ∧ Below w.heap.size w w' := by
  subst hR
  obtain ⟨L, hL⟩ : ∃ L, ts.map (evT X (t1, t2)) = L := ⟨_, rfl⟩
  have hLl : L.length = ts.length := by rw [← hL, List.length_map]
  have HLL := Lib.hid hLl
  have HLK := Lib.hid (show ∀ (k : Nat) (e : Ex), ts[k]? = some e → L[k]? = some (evT X (t1, t2) e) from fun k e h => by rw [← hL, List.getElem?_map, h]; rfl)
  rw [hL]
  clear hL hLl
  obtain ⟨i0, hi, hz0, hz1, hz2⟩ := info_parts info_ivB
  obtain ⟨pf, cf, rfl⟩ := hf.cut
  rw [List.length_map] at hf ⊢
  have hE : Below w.heap.size w ((w.alloc (.cells #[.slice pn nn cn, .slice pf ts.length cf] 33)).alloc (.cells #[.int .i64 t1, .int .i64 t2] 26)) := allocs_below [.cells #[.slice pn nn cn, .slice pf ts.length cf] 33, .cells #[.int .i64 t1, .int .i64 t2] 26] w
  have a0 : ((w.alloc (.cells #[.slice pn nn cn, .slice pf ts.length cf] 33)).alloc (.cells #[.int .i64 t1, .int .i64 t2] 26)).heap[w.heap.size]? = some (.cells #[.slice pn nn cn, .slice pf ts.length cf] 33 (0, 0)) := allocs_at [.cells #[.slice pn nn cn, .slice pf ts.length cf] 33, .cells #[.int .i64 t1, .int .i64 t2] 26] w 0 _ rfl
  have a1 : ((w.alloc (.cells #[.slice pn nn cn, .slice pf ts.length cf] 33)).alloc (.cells #[.int .i64 t1, .int .i64 t2] 26)).heap[w.heap.size + 1]? = some (.cells #[.int .i64 t1, .int .i64 t2] 26 (0, 0)) := allocs_at [.cells #[.slice pn nn cn, .slice pf ts.length cf] 33, .cells #[.int .i64 t1, .int .i64 t2] 26] w 1 _ rfl
  have HE := Lib.hid hE
  have A1 := Lib.hid a1
  have HF := Lib.hid hf
  have HX := Lib.hid hxv
  have HEV := Lib.hid he
  have HSM := Lib.hid hsm
  have x1 := heapN_cellj a0 (k := 1) rfl
  clear hE a0 a1 hf hxv he hsm
  go_enter Tryz.func53, Tryz.ntmps53
  go_wp2_with (fail)
  generalize hWc : World.alloc (World.alloc w _) _ = W2 at *
  clear hWc
  have H0 := Lib.hid (World.ownsRow_nil W2 W2.heap.size 26 2)
  go_loopw [7, 13] (fun v i wr => ∃ k : Nat, i = .int .i64 k ∧ k ≤ ts.length ∧ wr.ownsRow W2.heap.size 26 2 v k (cr encB (L.take k)) ∧ Below W2.heap.size W2 wr) (fun v i _ => ts.length - (intOf i).toNat)
  case atStart => exact ⟨0, rfl, Nat.zero_le _, H0.out, Below.refl _ _⟩
  case round =>
    clear H0 x1
    obtain ⟨k, rfl, hk, hrow, hB⟩ := hrel
    have ht := (hB.block _ (Array.getElem?_eq_some_iff.1 A1.out).1).trans A1.out
    obtain ⟨pv, cv, rfl⟩ := own_slice hrow
    have HR := Lib.hid hrow
    have HBr := Lib.hid hB
    have hsr := hB.size
    by_cases hlt : k < ts.length
    · have i2 : (k : Int) < ts.length := by omega
      obtain ⟨e, hx⟩ : ∃ e, ts[k]? = some e := ⟨_, List.getElem?_eq_getElem hlt⟩
      obtain ⟨⟨r1, r2⟩, hr⟩ : ∃ r, evT X (t1, t2) e = r := ⟨_, rfl⟩
      have hsn : cr encB (L.take (k + 1)) = cr encB (L.take k) ++ encB (r1, r2) := by
        rw [List.take_add_one, HLK.out k e hx, hr]
        exact cr_snoc _ _
      have hrx : (ts.map pre)[k]? = some (pre e) := by rw [List.getElem?_map, hx]; rfl
      obtain ⟨bf, of, u, rfl, hbf, rdf⟩ := HF.out.rd grows_nxo hrx
      obtain ⟨hbg, f0, hnx⟩ := rdf ⟨wr, below_then HE.out hB⟩
      dsimp only at f0 hnx
      obtain ⟨pu, cu, rfl, _⟩ := hnx.1.2
      have hem := List.mem_of_getElem? hx
      have KE := Lib.hid (evalE_ok _ xv t1 t2 X N e wr hnx.1 (HX.out.grow (below_then HE.out hB)) hN hvx hvt (HEV.out e hem) (by have := HSM.out e hem; omega) r1 r2 hr)
      have HSN := Lib.hid hsn
      have g0 := heapN_cellj ht (k := 0) rfl
      have g1 := heapN_cellj ht (k := 1) rfl
      clear hsn hr hrow hB ht hx hrx rdf hnx hem hbg
      go_wp2_with (fail)
      refine KE.out.mono ?_
      rintro en w5 ⟨rfl, hB5⟩
      have hrow5 := own_keptN HR.out hB5
      have hB6 := HBr.out.trans (hB5.mono hsr)
      have hs5 := hB6.size
      have HR5 := Lib.hid hrow5
      have HB6 := Lib.hid hB6
      clear hB5 hrow5 hB6 KE g0 g1 f0
      go_wp2_with (at_builtin; refine wpList_append_own _ rfl (.tmp 17) (.tmp 22) 24 rfl W2.heap.size 26 i0 (.agg #[.int .i64 0, .int .i64 0]) 2 16 Tryz.underlying24 hi hz0 hz1 hz2 rfl (by decide) (.slice pv k cv) k _ rfl (HR5.out.alloc _) ⟨w5.heap.size, 0, none⟩ 1 1 (encB (r1, r2)) rfl rfl (new_b _ (r1, r2)) (one_b _) (by unfold maxLen; omega) (by omega) (by rw [alloc_sz]; omega) ?_)
      intro v' w8 hown' hgrow _
      have hB8 : Below W2.heap.size W2 w8 := Below.grown (HB6.out.alloc hs5 _) hgrow (by rw [alloc_sz]; omega) (fun i hi => (HR5.out.lt i hi).1)
      obtain ⟨p8, c8, rfl⟩ := own_slice hown'
      have HR8 := Lib.hid hown'
      have HB8 := Lib.hid hB8
      clear hown' hgrow hB8
      go_wp2_with (fail)
      go_roundw
      case rel =>
        refine ⟨k + 1, by go_num, by omega, ?_, HB8.out⟩
        rw [HSN.out]
        exact HR8.out
      case measure => simp [intOf]; omega
    · obtain rfl : ts.length = k := by omega
      have i2 : ¬ (ts.length : Int) < ts.length := by omega
      have hvx' : wr.ownsRow w.heap.size 26 2 (.slice pv ts.length cv) L.length (cr encB L) := by
        have h := HR.out
        have hl : L.length = ts.length := HLL.out
        rw [← hl, List.take_length, hl] at h
        rw [← hl] at h ⊢
        exact own_base h (by first | exact Nat.le_refl _ | exact HE.out.size)
      have HV := Lib.hid hvx'
      clear hvx' hrow hB
      go_wp2_with (fail)
      go_ret
      exact ⟨_, rfl, HV.out, below_then HE.out HBr.out⟩
theorem two_iv {W : World} {X : Nat} (x : Int × Int) (h : W.heap[X]? = some (.cells #[.int .i64 x.1, .int .i64 x.2] 26 (0, 0))) : ∀ j u, (encB x)[j]? = some u → W.cell? ((⟨X, 0, none⟩ : Addr).add j) = some u := by
  intro j u hj
  have hk : j < 2 := by have := (List.getElem?_eq_some_iff.1 hj).1; simpa [encB] using this
  match j, hk, hj with
  | 0, _, hj => cases hj; exact heapN_cellj h (k := 0) rfl
  | 1, _, hj => cases hj; exact heapN_cellj h (k := 1) rfl
/-- A slice of nodes as a value. -/
def NsQ (w : World) (z : Value) (l : List Nd) : Prop := ∃ p c, z = .slice p l.length c ∧ NxC w (.slice p l.length c) l
theorem steady_nsq (l : List Nd) : Steady (fun v w => NsQ w v l) := fun _ _ _ hb ⟨p, c, e, h⟩ => ⟨p, c, e, grows_nxc _ _ _ _ h hb⟩
theorem nsq_own {w : World} {B : Nat} {v : Value} {l : List Nd} (h : w.ownsRow B 63 4 v l.length (cr encN l)) (hl : l.length ≤ maxLen) : NsQ w v l := by
  obtain ⟨p, c, rfl⟩ := own_slice h
  exact ⟨p, c, rfl, nxc_own h hl⟩
theorem own_oth {W W' : World} {B X n sz : Nat} {v : Value} {ty : TypeId} {xs : List Value} (h : W.ownsRow B ty sz v n xs) (hO : Oth X W W') (hX : X < B) : W'.ownsRow B ty sz v n xs :=
  h.kept (row := some X) ⟨hO.os, hO.tape, hO.output, hO.size, fun k hk hn => hO.blk k hk (fun e => hn (by rw [e]))⟩ (own_ne fun g hg e => by
    have := (h.lt g hg).1
    omega)
theorem dD_len2 (y : Nd) (e : Ex) (h : (pre e).length ≤ 200) : (pre (dD y e)).length ≤ 100000 := by
  have h1 := dD_len y e
  have h2 : (pre e).length * ((pre e).length + 4) ≤ 200 * 204 := Nat.mul_le_mul h (by omega)
  omega
theorem info_ivsJ : (Tryz.prog.info? 24).map (fun i => (i.zero, i.size, i.bytes)) = some (some (.slice none 0 0), 1, 24) := by kernel_rfl
/-- A row and the matrix of the derivatives' values. -/
def jrow (X : List (Int × Int)) (t : Int × Int) (e : Ex) (n : Nat) : List (Int × Int) := (List.range n).map (fun (j : Nat) => evT X t (dD ⟨2, (j : Int), 0, 0⟩ e))
theorem jrow_snoc (X : List (Int × Int)) (t : Int × Int) (e : Ex) (n : Nat) : jrow X t e (n + 1) = jrow X t e n ++ [evT X t (dD ⟨2, (n : Int), 0, 0⟩ e)] := by
  unfold jrow
  rw [List.range_succ, List.map_append]
  rfl
theorem jrow_len (X : List (Int × Int)) (t : Int × Int) (e : Ex) (n : Nat) : (jrow X t e n).length = n := by simp [jrow]
set_option maxHeartbeats 16000000 in
theorem matrix_ok (N : Int) (pn : Option Addr) (nn cn : Nat) (vf xv : Value) (t1 t2 : Int) (X : List (Int × Int)) (ts : List Ex) (w : World) (hf : Lx NxO w vf (ts.map pre)) (hxv : Vx w xv X) (hXN : (X.length : Int) = N) (hN : N ≤ 1000) (hvx : ∀ p ∈ X, VI p.1 p.2) (hvt : VI t1 t2) (he : ∀ e ∈ ts, EV N e) (hsm : ∀ e ∈ ts, (pre e).length ≤ 200) (h6 : ts.length ≤ 6) :
    Calls Tryz.prog 22 #[.agg #[.slice pn nn cn, vf], xv, .agg #[.int .i64 t1, .int .i64 t2]] w fun en w' => ∃ u us, en = .returned u ∧ OwT encB 2 26 24 w.heap.size w' u (ts.map (fun e => jrow X (t1, t2) e ts.length)) us ∧ Below w.heap.size w w' := by
  obtain ⟨i0, hi, hz0, hz1, hz2⟩ := info_parts info_ivB
  obtain ⟨j0, hj, hy0, hy1, hy2⟩ := info_parts info_ivsJ
  obtain ⟨pf, cf, rfl⟩ : ∃ p c, vf = .slice p ts.length c := by obtain ⟨_, p, c, e, _⟩ := hf; exact ⟨p, c, by rw [e, List.length_map]⟩
  obtain ⟨px, cx, rfl⟩ := hxv.cut
  have hE : Below w.heap.size w ((w.alloc (.cells #[.slice pn nn cn, .slice pf ts.length cf] 33)).alloc (.cells #[.int .i64 t1, .int .i64 t2] 26)) := allocs_below [.cells #[.slice pn nn cn, .slice pf ts.length cf] 33, .cells #[.int .i64 t1, .int .i64 t2] 26] w
  have HS := Lib.hid (show Blk ((w.alloc (.cells #[.slice pn nn cn, .slice pf ts.length cf] 33)).alloc (.cells #[.int .i64 t1, .int .i64 t2] 26)) (w.heap.size) (.cells #[.slice pn nn cn, .slice pf ts.length cf] 33) from allocs_at [.cells #[.slice pn nn cn, .slice pf ts.length cf] 33, .cells #[.int .i64 t1, .int .i64 t2] 26] w 0 _ rfl)
  have HI := Lib.hid (show Blk ((w.alloc (.cells #[.slice pn nn cn, .slice pf ts.length cf] 33)).alloc (.cells #[.int .i64 t1, .int .i64 t2] 26)) (w.heap.size + 1) (.cells #[.int .i64 t1, .int .i64 t2] 26) from allocs_at [.cells #[.slice pn nn cn, .slice pf ts.length cf] 33, .cells #[.int .i64 t1, .int .i64 t2] 26] w 1 _ rfl)
  have hEs : (((w.alloc (.cells #[.slice pn nn cn, .slice pf ts.length cf] 33)).alloc (.cells #[.int .i64 t1, .int .i64 t2] 26))).heap.size = w.heap.size + 1 + 1 := by rw [alloc_sz, alloc_sz]
  have HF := Lib.hid (Lx.grow grows_nxo hf hE)
  have HX := Lib.hid (hxv.grow hE)
  obtain ⟨E, hEE⟩ : ∃ E, ((w.alloc (.cells #[.slice pn nn cn, .slice pf ts.length cf] 33)).alloc (.cells #[.int .i64 t1, .int .i64 t2] 26)) = E := ⟨_, rfl⟩
  rw [hEE] at hE hEs HS HI HF HX
  have HEE := Lib.hid hEE
  have HE := Lib.hid hE
  have HVX := Lib.hid hvx
  have HVT := Lib.hid hvt
  have HEV := Lib.hid he
  have HSM := Lib.hid hsm
  have HXN := Lib.hid hXN
  have HN := Lib.hid hN
  have HES := Lib.hid hEs
  have HO0 : Hid (OwT encB 2 26 24 E.heap.size E (.slice none 0 0) [] []) := Lib.hid ⟨World.ownsRow_nil _ _ _ _, fun i r h => by simp at h, fun i j u x h => by simp at h⟩
  have s1 := heapN_cellj HS.out (k := 1) (u := .slice pf ts.length cf) rfl
  clear hE hEE hf hxv hvx hvt he hsm hXN hN hEs
  go_enter Tryz.func22, Tryz.ntmps22
  go_wp2_with (fail)
  rw [HEE.out]
  go_wp2_with (fail)
  clear s1
  go_loopw [7, 15] (fun v7 i wr => ∃ (k : Nat) (us : List Value), i = .int .i64 k ∧ k ≤ ts.length ∧ Hid (OwT encB 2 26 24 E.heap.size wr v7 ((ts.take k).map (fun e => jrow X (t1, t2) e ts.length)) us) ∧ Hid (Below E.heap.size E wr)) (fun v7 i _ => ts.length - (intOf i).toNat)
  case atStart => exact ⟨0, [], rfl, Nat.zero_le _, HO0, Lib.hid (Below.refl _ _)⟩
  case round =>
    clear HO0
    obtain ⟨k, us, rfl, hk, HO, HB⟩ := hrel
    obtain ⟨p7, c7, rfl⟩ := own_slice HO.out.out
    have htl : ((ts.take k).map (fun e => jrow X (t1, t2) e ts.length)).length = k := by rw [List.length_map, List.length_take]; omega
    rw [htl] at HO ⊢
    have hbs := HB.out.size
    by_cases hlk : k < ts.length
    · have i3 : (k : Int) < ts.length := by omega
      obtain ⟨e, ha⟩ : ∃ e, ts[k]? = some e := ⟨_, List.getElem?_eq_getElem hlk⟩
      have hem := List.mem_of_getElem? ha
      obtain ⟨br, orr, u, rfl, hb2, rd2⟩ := HF.out.rd grows_nxo (j := k) (x := pre e) (by rw [List.getElem?_map, ha]; rfl)
      have r0 : wr.cell? ⟨br, orr + k, none⟩ = some u := (rd2 ⟨wr, HB.out⟩).2.1
      have hu : NxC E u (pre e) := (rd2 ⟨E, Below.refl _ _⟩).2.2.1
      obtain ⟨pu, cu, rfl⟩ : ∃ q cq, u = .slice q (pre e).length cq := by obtain ⟨_, p, c, e1, _⟩ := hu; exact ⟨p, c, e1⟩
      have hsn : (ts.take (k + 1)).map (fun e => jrow X (t1, t2) e ts.length) = (ts.take k).map (fun e => jrow X (t1, t2) e ts.length) ++ [jrow X (t1, t2) e ts.length] := by rw [List.take_add_one, ha, List.map_append]; rfl
      have HSN := Lib.hid hsn
      have HU := Lib.hid hu
      have HEV1 := Lib.hid (HEV.out e hem)
      have HSM1 := Lib.hid (HSM.out e hem)
      have s1 := heapN_cellj (HS.out.grow HB.out) (k := 1) (u := .slice (some ⟨br, orr, none⟩) ts.length cf) rfl
      clear ha hb2 rd2 hu hsn hem
      go_wp2_with (fail)
      clear s1 r0
      obtain ⟨wo, hwo⟩ : ∃ wo, wo = wr := ⟨_, rfl⟩
      subst hwo
      go_loopw [10, 22] (fun v10 i wr => ∃ (j : Nat), i = .int .i64 j ∧ j ≤ ts.length ∧ Hid (wr.ownsRow wo.heap.size 26 2 v10 j (cr encB (jrow X (t1, t2) e j))) ∧ Hid (Below wo.heap.size wo wr)) (fun v10 i _ => ts.length - (intOf i).toNat)
      case atStart => exact ⟨0, rfl, Nat.zero_le _, Lib.hid (World.ownsRow_nil _ _ _ _), Lib.hid (Below.refl _ _)⟩
      case round =>
        obtain ⟨j, rfl, hj', HR, HQ⟩ := hrel
        obtain ⟨pv, cv, rfl⟩ := own_slice HR.out
        have hqs := HQ.out.size
        by_cases hlj : j < ts.length
        · have i4 : (j : Int) < ts.length := by omega
          obtain ⟨⟨r1, r2⟩, hr⟩ : ∃ r, evT X (t1, t2) (dD ⟨2, (j : Int), 0, 0⟩ e) = r := ⟨_, rfl⟩
          have hsn2 := jrow_snoc X (t1, t2) e j
          rw [hr] at hsn2
          have HS2 := Lib.hid hsn2
          have hbE := below_then HB.out HQ.out
          have HBE := Lib.hid hbE
          have KD := Lib.hid (fun g : Grown wr => diff_ok N HN.out (j : Int) (by unfold W64; omega) _ e g.w (grows_nxc _ _ _ _ HU.out (below_then HBE.out g.h)) HEV1.out HSM1.out)
          have KE := Lib.hid (fun (g : Grown wr) (v : Value) (hv : NxC g.w v (pre (dD ⟨2, (j : Int), 0, 0⟩ e))) => evalE_ok v (.slice px X.length cx) t1 t2 X N (dD ⟨2, (j : Int), 0, 0⟩ e) g.w hv (HX.out.grow (below_then HBE.out g.h)) HXN.out HVX.out HVT.out (dD_ev _ HEV1.out) (by have := dD_len2 ⟨2, (j : Int), 0, 0⟩ e HSM1.out; omega) r1 r2 hr)
          have x0 := fun g : Grown wr => heapN_cellj (HI.out.grow (below_then HBE.out g.h)) (k := 0) (u := .int .i64 t1) rfl
          have x1 := fun g : Grown wr => heapN_cellj (HI.out.grow (below_then HBE.out g.h)) (k := 1) (u := .int .i64 t2) rfl
          have HDL := Lib.hid (dD_len2 ⟨2, (j : Int), 0, 0⟩ e HSM1.out)
          clear hsn2 hbE hr
          go_wp2_with (fail)
          refine region_pred_n 8 (lk [(25, fun z_ _ => z_ = .slice pv j cv), (26, fun z_ _ => z_ = .slice pu (pre e).length cu), (27, fun z_ _ => z_ = .int .i64 (j : Int)), (28, fun z_ w_ => NsQ w_ z_ (pre (dD ⟨2, (j : Int), 0, 0⟩ e))), (29, fun z_ _ => z_ = .slice px X.length cx), (30, fun z_ _ => z_ = .agg #[.int .i64 t1, .int .i64 t2]), (31, fun z_ _ => z_ = .agg #[.int .i64 r1, .int .i64 r2]), (32, fun z_ w' => ∃ X_, z_ = .slice (some ⟨X_, 0, none⟩) 1 1 ∧ wr.heap.size ≤ X_ ∧ w'.heap[X_]? = some (.cells #[.int .i64 r1, .int .i64 r2] 26 (0, 0)))]) (by kernel_rfl) (by kernel_rfl) (lk_steady _ ⟨steady_eq _, steady_eq _, steady_eq _, steady_nsq _, steady_eq _, steady_eq _, steady_eq _, fun u w1 w2 hb ⟨X, e, h1, h2⟩ => ⟨X, e, h1, (hb.block X (Array.getElem?_eq_some_iff.1 h2).1).trans h2⟩, trivial⟩) ?_ ?_
          · refine ⟨?_, ?_, ?_, ?_, ?_, ?_, ?_, ?_, trivial⟩
            · refine ob_plain [10] rfl rfl fun aa g h => ?_
              have yy0 := seen_out (v := .slice pv j cv) rfl rfl h.1
              have ee0 := getD_of yy0
              exact tupon_value (v := .slice pv j cv) (by simp [go_sem, ee0, yy0]) (Below.refl _ _) rfl
            · refine ob_plain [9] rfl rfl fun aa g h => ?_
              have yy0 := seen_out (v := .slice pu (pre e).length cu) rfl rfl h.1
              have ee0 := getD_of yy0
              exact tupon_value (v := .slice pu (pre e).length cu) (by simp [go_sem, ee0, yy0]) (Below.refl _ _) rfl
            · refine ob_plain [11] rfl rfl fun aa g h => ?_
              have yy0 := seen_out (v := .int .i64 (j : Int)) rfl rfl h.1
              have ee0 := getD_of yy0
              exact tupon_value (v := .int .i64 (j : Int)) (by simp [go_sem, ee0, yy0]) (Below.refl _ _) rfl
            · refine ob_plain [26, 27] rfl rfl fun aa g h => ?_
              obtain ⟨_, yy0, rfl⟩ := seen_in rfl h.1
              have ee0 := getD_of yy0
              obtain ⟨_, yy1, rfl⟩ := seen_in rfl h.2.1
              have ee1 := getD_of yy1
              refine tupon_enter (f := 17) (args := #[.slice pu (pre e).length cu, .int .i64 (j : Int)]) (by simp [go_sem, ee0, yy0, ee1, yy1]) rfl ?_
              exact (KD.out g).mono fun e w' ⟨v_, he, hr, hB⟩ => ⟨_, he, hB, nsq_own hr (by have := HDL.out; unfold maxLen; omega)⟩
            · refine ob_plain [1] rfl rfl fun aa g h => ?_
              have yy0 := seen_out (v := .slice px X.length cx) rfl rfl h.1
              have ee0 := getD_of yy0
              exact tupon_value (v := .slice px X.length cx) (by simp [go_sem, ee0, yy0]) (Below.refl _ _) rfl
            · refine ob_plain [5] rfl rfl fun aa g h => ?_
              have yy0 := seen_out (v := .pointer (some ⟨w.heap.size + 1, 0, none⟩)) rfl rfl h.1
              have ee0 := getD_of yy0
              exact tupon_value (v := .agg #[.int .i64 t1, .int .i64 t2]) (by simp [go_sem, ee0, yy0, x0 g, x1 g]) (Below.refl _ _) rfl
            · refine ob_plain [28, 29, 30] rfl rfl fun aa g h => ?_
              obtain ⟨_, yy0, ⟨q28, c28, rfl, hn28⟩⟩ := seen_in rfl h.1
              have ee0 := getD_of yy0
              obtain ⟨_, yy1, rfl⟩ := seen_in rfl h.2.1
              have ee1 := getD_of yy1
              obtain ⟨_, yy2, rfl⟩ := seen_in rfl h.2.2.1
              have ee2 := getD_of yy2
              refine tupon_enter (f := 52) (args := #[.slice q28 (pre (dD ⟨2, (j : Int), 0, 0⟩ e)).length c28, .slice px X.length cx, .agg #[.int .i64 t1, .int .i64 t2]]) (by simp [go_sem, ee0, yy0, ee1, yy1, ee2, yy2]) rfl ?_
              exact (KE.out g _ hn28).mono fun e w' ⟨he, hB⟩ => ⟨_, he, hB, rfl⟩
            · refine ob_plain [31] rfl rfl fun aa g h => ?_
              obtain ⟨_, yy0, rfl⟩ := seen_in rfl h.1
              have ee0 := getD_of yy0
              exact tupon_value (v := .slice (some ⟨g.w.heap.size, 0, none⟩) 1 1) (w1 := g.w.alloc (.cells #[.int .i64 r1, .int .i64 r2] 26)) (by simp [go_sem, ee0, yy0]) ((Below.refl _ _).alloc (Nat.le_refl _) _) ⟨_, rfl, g.h.size, World.alloc_heap_new _ _⟩
          rintro w9 hB9 _ rfl _ rfl _ rfl _ ⟨q28, c28, rfl, hn28⟩ _ rfl _ rfl _ rfl _ ⟨X32, rfl, hX32, hI32⟩
          simp only [Act.put, List.setIfInBounds_toArray, List.set_cons_succ, List.set_cons_zero, finP, List.drop_succ_cons, List.drop_zero, List.take_zero, List.filterMap_nil]
          have HR9 := Lib.hid (own_keptN HR.out hB9)
          have HB9 := Lib.hid (below_then HQ.out hB9)
          have HNB := Lib.hid (two_iv (r1, r2) hI32)
          have hs9 := HB9.out.size
          clear hB9 hI32 hX32 x0 x1 KD KE hn28 HR HQ HBE HDL
          go_wp2_with (at_builtin; refine wpList_append_own _ rfl (.tmp 25) (.tmp 32) 24 rfl wo.heap.size 26 i0 (.agg #[.int .i64 0, .int .i64 0]) 2 16 Tryz.underlying24 hi hz0 hz1 hz2 rfl (by decide) (.slice pv j cv) j _ rfl HR9.out ⟨X32, 0, none⟩ 1 1 (encB (r1, r2)) rfl rfl HNB.out (one_b _) (by unfold maxLen; omega) (by omega) HB9.out.size ?_)
          intro v' w10 hown' hgrow _
          have hb10 := Below.grown HB9.out hgrow HB9.out.size (fun i hi => (HR9.out.lt i hi).1)
          obtain ⟨p6, c6, rfl⟩ := own_slice hown'
          have HR10 := Lib.hid hown'
          have HB10 := Lib.hid hb10
          clear hown' hgrow hb10 HR9 HB9
          go_wp2_with (fail)
          go_roundw
          case rel => exact ⟨j + 1, by go_num, by omega, Lib.hid (by rw [HS2.out, cr_snoc]; exact HR10.out), HB10⟩
          case measure => simp [intOf]; omega
        · obtain rfl : j = ts.length := by omega
          have i4 : ¬ (ts.length : Int) < ts.length := by omega
          have hA : Below wo.heap.size wo (wr.alloc (.cells #[.slice pv ts.length cv] 24)) := HQ.out.alloc HQ.out.size _
          have hO9 := HO.out.grow hA
          have hrow : (wr.alloc (.cells #[.slice pv ts.length cv] 24)).ownsRow E.heap.size 26 2 (.slice pv ts.length cv) (jrow X (t1, t2) e ts.length).length (cr encB (jrow X (t1, t2) e ts.length)) := by
            rw [jrow_len]
            exact own_base (own_keptN HR.out ((Below.refl _ _).alloc (Nat.le_refl _) _)) hbs
          have hfar : ∀ y ∈ us, y.ownBlock = none ∨ y.ownBlock ≠ (Value.slice pv ts.length cv).ownBlock := fun y hy => by
            obtain ⟨r', hr', hown⟩ := HO.out.mem hy
            cases hyb : y.ownBlock with
            | none => exact .inl rfl
            | some b =>
              refine .inr fun e2 => ?_
              have h1 := (hown.lt b hyb).2
              have h2 := (HR.out.lt b e2.symm).1
              omega
          have HO9 := Lib.hid hO9
          have HRW := Lib.hid hrow
          have HFR := Lib.hid hfar
          have HA := Lib.hid (below_then HB.out hA)
          have hsz9 : wr.heap.size < (wr.alloc (.cells #[.slice pv ts.length cv] 24)).heap.size := by rw [alloc_sz]; omega
          clear hA hO9 hrow hfar HO HB
          go_wp2_with (at_builtin; refine wpList_append_own_at _ rfl (.tmp 35) (.tmp 37) 42 rfl E.heap.size 24 j0 (.slice none 0 0) 1 24 Tryz.underlying42 hj hy0 hy1 hy2 rfl (by decide) (.slice p7 k c7) k _ rfl (by have := HO9.out.out; rw [htl] at this; exact this) ⟨wr.heap.size, 0, none⟩ 1 1 [.slice pv ts.length cv] rfl rfl (one_newN _ _ _) (by simp [Value.oneCell']) (by unfold maxLen; omega) (by omega) (by rw [alloc_sz]; omega) ?_)
          intro v' w10 hown hgr _ hat
          obtain ⟨p6, c6, rfl⟩ := own_slice hown
          have hsnoc := HO9.out.snoc (by decide) HRW.out HFR.out (by rw [htl]; exact hown) hgr
          rw [← HSN.out] at hsnoc
          have hb10 : Below E.heap.size E w10 := Below.grown HA.out hgr HA.out.size (fun i hi => (HO9.out.out.lt i hi).1)
          have HP := Lib.hid hsnoc
          have HB10 := Lib.hid hb10
          clear hown hgr hat hsnoc hb10 HO9 HRW HFR HA HR HQ
          go_wp2_with (fail)
          go_roundw
          case rel => exact ⟨k + 1, _, by go_num, by omega, HP, HB10⟩
          case measure => simp [intOf]; omega
    · obtain rfl : k = ts.length := by omega
      have i3 : ¬ (ts.length : Int) < ts.length := by omega
      go_wp2_with (fail)
      go_ret
      have h := HO.out.base HE.out.size
      rw [List.take_length] at h
      exact ⟨_, rfl, ⟨_, h⟩, below_then HE.out HB.out⟩
/-- The rate of change of an expression along the first k coordinates. -/
def lieR (X F : List (Int × Int)) (t : Int × Int) (ge : Ex) : Nat → Int × Int
  | 0 => evT X t (dD ⟨3, 0, 0, 0⟩ ge)
  | k + 1 => if pre (dD ⟨2, (k : Int), 0, 0⟩ ge) = pre (pt 0) then lieR X F t ge k else opI 7 (lieR X F t ge k) (opI 9 (evT X t (dD ⟨2, (k : Int), 0, 0⟩ ge)) (F.getD k (0, 0)))
theorem lieR_vi {X F : List (Int × Int)} {t : Int × Int} {N : Int} {ge : Ex} (hX : ∀ p ∈ X, VI p.1 p.2) (ht : VI t.1 t.2) (hg : EV N ge) (hF : ∀ p ∈ F, VI p.1 p.2) : ∀ k : Nat, VI (lieR X F t ge k).1 (lieR X F t ge k).2
  | 0 => evT_vi hX ht (dD_ev _ hg)
  | k + 1 => by
    unfold lieR
    split
    · exact lieR_vi hX ht hg hF k
    · refine opI_vi 7 (lieR_vi hX ht hg hF k) (opI_vi 9 (evT_vi hX ht (dD_ev _ hg)) ?_)
      rw [List.getD_eq_getElem?_getD]
      cases h : F[k]? with
      | none => exact Or.inr ⟨by decide, by decide, by decide⟩
      | some p => exact hF p (List.mem_of_getElem? h)
set_option maxHeartbeats 16000000 in
theorem lie_ok (N : Int) (pn : Option Addr) (nn cn : Nat) (vf vg xv : Value) (t1 t2 : Int) (X : List (Int × Int)) (ts : List Ex) (ge : Ex) (w : World) (hf : Lx NxO w vf (ts.map pre)) (hg : NxC w vg (pre ge)) (hxv : Vx w xv X) (hXN : (X.length : Int) = N) (hN : N ≤ 1000) (hvx : ∀ p ∈ X, VI p.1 p.2) (hvt : VI t1 t2) (he : ∀ e ∈ ts, EV N e) (hsm : ∀ e ∈ ts, (pre e).length ≤ 200) (h6 : ts.length ≤ 6) (hge : EV N ge) (hgs : (pre ge).length ≤ 200) :
    Calls Tryz.prog 24 #[.agg #[.slice pn nn cn, vf], vg, xv, .agg #[.int .i64 t1, .int .i64 t2]] w fun en w' => en = .returned (.agg #[.int .i64 (lieR X (ts.map (evT X (t1, t2))) (t1, t2) ge ts.length).1, .int .i64 (lieR X (ts.map (evT X (t1, t2))) (t1, t2) ge ts.length).2]) ∧ Below w.heap.size w w' := by
  obtain ⟨pf, cf, rfl⟩ : ∃ p c, vf = .slice p ts.length c := by obtain ⟨_, p, c, e, _⟩ := hf; exact ⟨p, c, by rw [e, List.length_map]⟩
  obtain ⟨px, cx, rfl⟩ := hxv.cut
  obtain ⟨pg, cg, rfl⟩ : ∃ q cq, vg = .slice q (pre ge).length cq := by obtain ⟨_, p, c, e1, _⟩ := hg; exact ⟨p, c, e1⟩
  have hE : Below w.heap.size w (((w.alloc (.cells #[.slice pn nn cn, .slice pf ts.length cf] 33)).alloc (.cells #[.int .i64 t1, .int .i64 t2] 26)).alloc (.cells #[.int .i64 0, .int .i64 0] 26)) := allocs_below [.cells #[.slice pn nn cn, .slice pf ts.length cf] 33, .cells #[.int .i64 t1, .int .i64 t2] 26, .cells #[.int .i64 0, .int .i64 0] 26] w
  have HS := Lib.hid (show Blk (((w.alloc (.cells #[.slice pn nn cn, .slice pf ts.length cf] 33)).alloc (.cells #[.int .i64 t1, .int .i64 t2] 26)).alloc (.cells #[.int .i64 0, .int .i64 0] 26)) (w.heap.size) (.cells #[.slice pn nn cn, .slice pf ts.length cf] 33) from allocs_at [.cells #[.slice pn nn cn, .slice pf ts.length cf] 33, .cells #[.int .i64 t1, .int .i64 t2] 26, .cells #[.int .i64 0, .int .i64 0] 26] w 0 _ rfl)
  have HI := Lib.hid (show Blk (((w.alloc (.cells #[.slice pn nn cn, .slice pf ts.length cf] 33)).alloc (.cells #[.int .i64 t1, .int .i64 t2] 26)).alloc (.cells #[.int .i64 0, .int .i64 0] 26)) (w.heap.size + 1) (.cells #[.int .i64 t1, .int .i64 t2] 26) from allocs_at [.cells #[.slice pn nn cn, .slice pf ts.length cf] 33, .cells #[.int .i64 t1, .int .i64 t2] 26, .cells #[.int .i64 0, .int .i64 0] 26] w 1 _ rfl)
  have HR := Lib.hid (show Blk (((w.alloc (.cells #[.slice pn nn cn, .slice pf ts.length cf] 33)).alloc (.cells #[.int .i64 t1, .int .i64 t2] 26)).alloc (.cells #[.int .i64 0, .int .i64 0] 26)) (w.heap.size + 1 + 1) (.cells #[.int .i64 0, .int .i64 0] 26) from allocs_at [.cells #[.slice pn nn cn, .slice pf ts.length cf] 33, .cells #[.int .i64 t1, .int .i64 t2] 26, .cells #[.int .i64 0, .int .i64 0] 26] w 2 _ rfl)
  have hEs : ((((w.alloc (.cells #[.slice pn nn cn, .slice pf ts.length cf] 33)).alloc (.cells #[.int .i64 t1, .int .i64 t2] 26)).alloc (.cells #[.int .i64 0, .int .i64 0] 26))).heap.size = w.heap.size + 1 + 1 + 1 := by rw [alloc_sz, alloc_sz, alloc_sz]
  have hvF : ∀ p ∈ ts.map (evT X (t1, t2)), VI p.1 p.2 := fun p hp => by
    obtain ⟨e, h1, rfl⟩ := List.mem_map.1 hp
    exact evT_vi hvx hvt (he e h1)
  obtain ⟨FD, hFD⟩ : ∃ FD, ts.map (evT X (t1, t2)) = FD := ⟨_, rfl⟩
  have hFl : FD.length = ts.length := by rw [← hFD, List.length_map]
  have HFD := Lib.hid hFD
  rw [hFD] at hvF ⊢
  have HF := Lib.hid (Lx.grow grows_nxo hf hE)
  have HG := Lib.hid (grows_nxc _ _ _ _ hg hE)
  have HX := Lib.hid (hxv.grow hE)
  obtain ⟨E, hEE⟩ : ∃ E, (((w.alloc (.cells #[.slice pn nn cn, .slice pf ts.length cf] 33)).alloc (.cells #[.int .i64 t1, .int .i64 t2] 26)).alloc (.cells #[.int .i64 0, .int .i64 0] 26)) = E := ⟨_, rfl⟩
  rw [hEE] at hE hEs HS HI HR HF HG HX
  have HEE := Lib.hid hEE
  have HE := Lib.hid hE
  have HVX := Lib.hid hvx
  have HVT := Lib.hid hvt
  have HEV := Lib.hid he
  have HSM := Lib.hid hsm
  have HXN := Lib.hid hXN
  have HN := Lib.hid hN
  have HES := Lib.hid hEs
  have HGE := Lib.hid hge
  have HGS := Lib.hid hgs
  have HFL := Lib.hid hFl
  have HVF := Lib.hid hvF
  have HLV := Lib.hid (fun k => lieR_vi (F := FD) (t := (t1, t2)) hvx hvt hge hvF k)
  obtain ⟨⟨r1, r2⟩, hr⟩ : ∃ r, evT X (t1, t2) (dD ⟨3, 0, 0, 0⟩ ge) = r := ⟨_, rfl⟩
  have HLR := Lib.hid (show lieR X FD (t1, t2) ge 0 = (r1, r2) from hr)
  obtain ⟨⟨z1, z2⟩, hz⟩ : ∃ r, lieR X FD (t1, t2) ge ts.length = r := ⟨_, rfl⟩
  rw [hz]
  have HZZ := Lib.hid hz
  have KD := Lib.hid (fun g : Grown E => tder_ok N hN _ ge g.w (grows_nxc _ _ _ _ HG.out g.h) hge hgs)
  have KE := Lib.hid (fun (g : Grown E) (v : Value) (hv : NxC g.w v (pre (dD ⟨3, 0, 0, 0⟩ ge))) => evalE_ok v (.slice px X.length cx) t1 t2 X N (dD ⟨3, 0, 0, 0⟩ ge) g.w hv (HX.out.grow g.h) hXN hvx hvt (dD_ev _ hge) (by have := dD_len2 ⟨3, 0, 0, 0⟩ ge hgs; omega) r1 r2 hr)
  have HDL := Lib.hid (dD_len2 ⟨3, 0, 0, 0⟩ ge hgs)
  have x0 := fun g : Grown E => heapN_cellj (HI.out.grow g.h) (k := 0) (u := .int .i64 t1) rfl
  have x1 := fun g : Grown E => heapN_cellj (HI.out.grow g.h) (k := 1) (u := .int .i64 t2) rfl
  clear hE hEE hf hg hxv hvx hvt he hsm hXN hN hEs hge hgs hr hz hFD hFl hvF
  go_enter Tryz.func24, Tryz.ntmps24
  go_wp2_with (fail)
  rw [HEE.out]
  refine region_pred_l (lk [(13, fun z_ _ => z_ = .slice pg (pre ge).length cg), (14, fun z_ w_ => NsQ w_ z_ (pre (dD ⟨3, 0, 0, 0⟩ ge))), (15, fun z_ _ => z_ = .slice px X.length cx), (16, fun z_ _ => z_ = .agg #[.int .i64 t1, .int .i64 t2]), (17, fun z_ _ => z_ = .agg #[.int .i64 r1, .int .i64 r2]), (9, fun z_ w' => ∃ X_, z_ = .pointer (some ⟨X_, 0, none⟩) ∧ E.heap.size ≤ X_ ∧ w'.heap[X_]? = some (.cells #[.int .i64 0, .int .i64 0] 26 (0, 0)))]) 6 _ rfl (by kernel_rfl) (by kernel_rfl) (by kernel_rfl) (lk_steady _ ⟨steady_eq _, steady_nsq _, steady_eq _, steady_eq _, steady_eq _, fun u w1 w2 hb ⟨X, e, h1, h2⟩ => ⟨X, e, h1, (hb.block X (Array.getElem?_eq_some_iff.1 h2).1).trans h2⟩, trivial⟩) ?_ ?_
  · refine ⟨?_, ?_, ?_, ?_, ?_, ?_, ?_, trivial⟩
    · intro _
      refine ob_plain [1] rfl rfl fun aa g h => ?_
      have yy0 := seen_out (v := .slice pg (pre ge).length cg) rfl rfl h.1
      have ee0 := getD_of yy0
      exact tupon_value (v := .slice pg (pre ge).length cg) (by simp [go_sem, ee0, yy0]) (Below.refl _ _) rfl
    · intro _
      refine ob_plain [13] rfl rfl fun aa g h => ?_
      obtain ⟨_, yy0, rfl⟩ := seen_in rfl h.1
      have ee0 := getD_of yy0
      refine tupon_enter (f := 19) (args := #[.slice pg (pre ge).length cg]) (by simp [go_sem, ee0, yy0]) rfl ?_
      exact (KD.out g).mono fun e w' ⟨v_, he, hr, hB⟩ => ⟨_, he, hB, nsq_own hr (by have := HDL.out; unfold maxLen; omega)⟩
    · intro _
      refine ob_plain [2] rfl rfl fun aa g h => ?_
      have yy0 := seen_out (v := .slice px X.length cx) rfl rfl h.1
      have ee0 := getD_of yy0
      exact tupon_value (v := .slice px X.length cx) (by simp [go_sem, ee0, yy0]) (Below.refl _ _) rfl
    · intro _
      refine ob_plain [7] rfl rfl fun aa g h => ?_
      have yy0 := seen_out (v := .pointer (some ⟨w.heap.size + 1, 0, none⟩)) rfl rfl h.1
      have ee0 := getD_of yy0
      exact tupon_value (v := .agg #[.int .i64 t1, .int .i64 t2]) (by simp [go_sem, ee0, yy0, x0 g, x1 g]) (Below.refl _ _) rfl
    · intro _
      refine ob_plain [14, 15, 16] rfl rfl fun aa g h => ?_
      obtain ⟨_, yy0, ⟨q14, c14, rfl, hn14⟩⟩ := seen_in rfl h.1
      have ee0 := getD_of yy0
      obtain ⟨_, yy1, rfl⟩ := seen_in rfl h.2.1
      have ee1 := getD_of yy1
      obtain ⟨_, yy2, rfl⟩ := seen_in rfl h.2.2.1
      have ee2 := getD_of yy2
      refine tupon_enter (f := 52) (args := #[.slice q14 (pre (dD ⟨3, 0, 0, 0⟩ ge)).length c14, .slice px X.length cx, .agg #[.int .i64 t1, .int .i64 t2]]) (by simp [go_sem, ee0, yy0, ee1, yy1, ee2, yy2]) rfl ?_
      exact (KE.out g _ hn14).mono fun e w' ⟨he, hB⟩ => ⟨_, he, hB, rfl⟩
    · intro _
      refine ob_plain [] rfl rfl fun aa g h => ?_
      exact tupon_value (v := .pointer (some ⟨g.w.heap.size, 0, none⟩)) (w1 := g.w.alloc (.cells #[.int .i64 0, .int .i64 0] 26)) (by simp [go_sem]) ((Below.refl _ _).alloc (Nat.le_refl _) _) ⟨_, rfl, g.h.size, World.alloc_heap_new _ _⟩
    · exact fun h => absurd rfl h
  rintro w5 hB _ rfl _ ⟨q14, c14, rfl, hn14⟩ _ rfl _ rfl _ rfl _ ⟨X9, rfl, hX9, hI9⟩
  simp only [Act.put, List.setIfInBounds_toArray, List.set_cons_succ, List.set_cons_zero, List.filterMap_nil]
  have q0 := heapN_cellj hI9 (k := 0) rfl
  have y0 : w5.frozen? ⟨X9, 0, none⟩ = false := by simp [World.frozen?, show w5.heap[X9]? = _ from hI9]
  have q1 := heapN_cellj hI9 (k := 1) rfl
  have y1 : w5.frozen? ⟨X9, 1, none⟩ = false := by simp [World.frozen?, show w5.heap[X9]? = _ from hI9]
  refine ⟨_, by simp [go_sem, q0, y0, q1, y1]; rfl, ?_⟩
  clear q0 y0 q1 y1
  obtain ⟨w6, ew6, HIw6, HOw6⟩ := set2 (h := hI9) (.int .i64 r1) (.int .i64 r2)
  rw [ew6]
  clear ew6
  have hb6 : Below E.heap.size E w6 := HOw6.bel hB hX9 hB.size
  have hx9 : X9 < w6.heap.size := (Array.getElem?_eq_some_iff.1 HIw6).1
  have KV := Lib.hid (deriv_own pn nn cn (.slice pf ts.length cf) (.slice px X.length cx) t1 t2 X N ts w6 (Lx.grow grows_nxo HF.out hb6) (HX.out.grow hb6) HXN.out HVX.out HVT.out HEV.out HSM.out h6 FD HFD.out)
  have s0 := heapN_cellj (HS.out.grow hb6) (k := 0) (u := .slice pn nn cn) rfl
  have s1 := heapN_cellj (HS.out.grow hb6) (k := 1) (u := .slice pf ts.length cf) rfl
  have y0 := x0 ⟨w6, hb6⟩
  have y1 := x1 ⟨w6, hb6⟩
  dsimp only at y0 y1
  have HB6 := Lib.hid hb6
  have HC6 := Lib.hid HIw6
  clear hb6 HIw6 HOw6 hB hI9 hn14 KD KE HDL x0 x1
  go_wp2_with (fail)
  refine KV.out.mono ?_
  rintro en w7 ⟨u, rfl, hown, hB7⟩
  obtain ⟨pd, cd, rfl⟩ := own_slice hown
  have HO7 := Lib.hid hown
  have HC7 := Lib.hid ((hB7.block X9 hx9).trans HC6.out)
  have hb7 : Below E.heap.size E w7 := HB6.out.trans (hB7.mono HB6.out.size)
  have HB7 := Lib.hid hb7
  have hw6 : X9 < w6.heap.size := hx9
  clear hown hB7 hb7 KV s0 s1 y0 y1 HC6
  go_wp2_with (fail)
  go_loopw [23] (fun i wr => ∃ (k : Nat), i = .int .i64 k ∧ k ≤ FD.length ∧ Hid (wr.heap[X9]? = some (.cells #[.int .i64 (lieR X FD (t1, t2) ge k).1, .int .i64 (lieR X FD (t1, t2) ge k).2] 26 (0, 0))) ∧ Hid (wr.ownsRow w6.heap.size 26 2 (.slice pd FD.length cd) FD.length (cr encB FD)) ∧ Hid (Below E.heap.size E wr)) (fun i _ => FD.length - (intOf i).toNat)
  case atStart => exact ⟨0, rfl, Nat.zero_le _, Lib.hid (by rw [HLR.out]; exact HC7.out), HO7, HB7⟩
  case round =>
    clear HC7 HO7 HB7
    obtain ⟨k, rfl, hk, HC, HO, HB⟩ := hrel
    have hfl6 : FD.length ≤ 6 := by rw [HFL.out]; exact h6
    have hvx2 := Rx.own encB_len HO.out (by unfold maxLen; omega)
    by_cases hlk : k < FD.length
    · have i3 : (k : Int) < FD.length := by omega
      obtain ⟨⟨f1, f2⟩, hfk⟩ : ∃ p, FD[k]? = some p := ⟨_, List.getElem?_eq_getElem hlk⟩
      have hff : FD.getD k (0, 0) = (f1, f2) := by rw [List.getD_eq_getElem?_getD, hfk]; rfl
      have hvf := HVF.out _ (List.mem_of_getElem? hfk)
      dsimp only at hvf
      obtain ⟨br, orr, rfl, hb2, rd2⟩ := vx_rd hvx2 hfk
      obtain ⟨d0, d1⟩ := rd2 ⟨wr, Below.refl _ _⟩
      dsimp only at d0 d1
      obtain ⟨⟨l1, l2⟩, hl⟩ : ∃ r, lieR X FD (t1, t2) ge k = r := ⟨_, rfl⟩
      have hlv := HLV.out k
      rw [hl] at HC hlv
      obtain ⟨⟨e1, e2⟩, hee⟩ : ∃ r, evT X (t1, t2) (dD ⟨2, (k : Int), 0, 0⟩ ge) = r := ⟨_, rfl⟩
      have hev := evT_vi HVX.out (t := (t1, t2)) HVT.out (dD_ev ⟨2, (k : Int), 0, 0⟩ HGE.out)
      rw [hee] at hev
      dsimp only at hlv hev
      have HST := Lib.hid (show lieR X FD (t1, t2) ge (k + 1) = (if pre (dD ⟨2, (k : Int), 0, 0⟩ ge) = pre (pt 0) then (l1, l2) else opI 7 (l1, l2) (opI 9 (e1, e2) (f1, f2))) from by rw [← hl, ← hee, ← hff]; rfl)
      have hA : Below wr.heap.size wr (wr.alloc (.cells #[.int .i64 f1, .int .i64 f2] 26)) := (Below.refl _ _).alloc (Nat.le_refl _) _
      have HBA := Lib.hid (HB.out.alloc HB.out.size (.cells #[.int .i64 f1, .int .i64 f2] 26))
      have HT11 := Lib.hid (show Blk (wr.alloc (.cells #[.int .i64 f1, .int .i64 f2] 26)) wr.heap.size (.cells #[.int .i64 f1, .int .i64 f2] 26) from World.alloc_heap_new wr _)
      have hx9 : X9 < wr.heap.size := (Array.getElem?_eq_some_iff.1 HC.out).1
      have HCA := Lib.hid ((hA.block X9 hx9).trans HC.out)
      have HOA := Lib.hid (own_keptN HO.out hA)
      have KF := Lib.hid (diff_ok N HN.out (k : Int) (by unfold W64; omega) _ ge (wr.alloc (.cells #[.int .i64 f1, .int .i64 f2] 26)) (grows_nxc _ _ _ _ HG.out HBA.out) HGE.out HGS.out)
      have HDL := Lib.hid (dD_len2 ⟨2, (k : Int), 0, 0⟩ ge HGS.out)
      have HLL := Lib.hid hlv
      have HEE1 := Lib.hid hee
      have HEVV := Lib.hid hev
      have HFV := Lib.hid hvf
      clear hvx2 hfk hff hvf hb2 rd2 hl hlv hee hev hA HC HO HB
      go_wp2_with (fail)
      refine KF.out.mono ?_
      rintro en w8 ⟨v8, rfl, hr8, hB8⟩
      obtain ⟨p8, c8, hv8, hn8⟩ := nsq_own hr8 (by have := HDL.out; unfold maxLen; omega)
      subst hv8
      have hb8 : Below E.heap.size E w8 := HBA.out.trans (hB8.mono HBA.out.size)
      have hs8 := hB8.size
      have HN8 := Lib.hid hn8
      have HB8 := Lib.hid hb8
      have hxa : X9 < (wr.alloc (.cells #[.int .i64 f1, .int .i64 f2] 26)).heap.size := by rw [alloc_sz]; omega
      have HC8 := Lib.hid ((hB8.block X9 hxa).trans HCA.out)
      have HO8 := Lib.hid (own_keptN HOA.out hB8)
      have HT8 := Lib.hid (HT11.out.grow hB8)
      clear hr8 hb8 hn8 hB8 HCA HOA HT11 KF d0 d1
      go_wp2_with (fail)
      refine (number_ok (Fz := 0) 0 _ (by decide) (Nat.zero_le _)).mono ?_
      rintro en w9 ⟨z9, rfl, hz9, hB9⟩
      have KN := Lib.hid (nodes_ok (pt 0) z9 w9 hz9 (by decide))
      obtain ⟨b9, S9, rfl, _⟩ := hz9.root
      have HB9 := Lib.hid hB9
      clear hz9 hB9
      go_wp2_with (fail)
      refine KN.out.mono ?_
      rintro en w10 ⟨v10, rfl, hr10, hB10⟩
      obtain ⟨p10, c10, hv10, hn10⟩ := nsq_own hr10 (by decide)
      subst hv10
      have hb10 := below_then HB9.out hB10
      have KQ := Lib.hid (seq_ok (.slice p8 (pre (dD ⟨2, (k : Int), 0, 0⟩ ge)).length c8) (.slice p10 (pre (pt 0)).length c10) _ _ w10 (grows_nxc _ _ _ _ HN8.out hb10).1 hn10.1)
      have HB10 := Lib.hid hb10
      clear hr10 hn10 hb10 hB10 HB9 KN
      go_wp2_with (fail)
      refine KQ.out.mono ?_
      rintro en w11 ⟨rfl, hB11⟩
      have hb11 := below_then HB10.out hB11
      have HBE := Lib.hid (HB8.out.trans (hb11.mono HB8.out.size))
      have HCC := Lib.hid ((hb11.block X9 (by omega)).trans HC8.out)
      have HOO := Lib.hid (own_keptN HO8.out hb11)
      have HTT := Lib.hid (HT8.out.grow hb11)
      have HNN := Lib.hid (grows_nxc _ _ _ _ HN8.out hb11)
      have hs11 := hb11.size
      clear hB11 hb11 HB10 KQ HC8 HO8 HT8 HN8
      by_cases hz : pre (dD ⟨2, (k : Int), 0, 0⟩ ge) = pre (pt 0)
      · rw [decide_eq_true hz]
        have hst := HST.out
        rw [if_pos hz] at hst
        have HS2 := Lib.hid hst
        clear hz hst
        go_wp2_with (fail)
        go_roundw
        case rel => exact ⟨k + 1, by go_num, by omega, Lib.hid (by rw [HS2.out]; exact HCC.out), HOO, HBE⟩
        case measure => simp [intOf]; omega
      · rw [decide_eq_false hz]
        have hst := HST.out
        rw [if_neg hz] at hst
        obtain ⟨⟨m1, m2⟩, hm⟩ : ∃ r, opI 9 (e1, e2) (f1, f2) = r := ⟨_, rfl⟩
        have hmv := opI_vi 9 (p := (e1, e2)) (q := (f1, f2)) HEVV.out HFV.out
        rw [hm] at hst hmv
        have hmm := opI_9 (e1, e2) (f1, f2)
        rw [hm] at hmm
        obtain ⟨hm1, hm2⟩ := Prod.mk.inj hmm
        obtain ⟨⟨a1, a2⟩, haa⟩ : ∃ r, opI 7 (l1, l2) (m1, m2) = r := ⟨_, rfl⟩
        rw [haa] at hst
        have ham := opI_7 (l1, l2) (m1, m2)
        rw [haa] at ham
        obtain ⟨ha1, ha2⟩ := Prod.mk.inj ham
        dsimp only at hm1 hm2 ha1 ha2 hmv
        have HS2 := Lib.hid hst
        have KE := Lib.hid (fun (g : Grown w11) => evalE_ok _ (.slice px X.length cx) t1 t2 X N (dD ⟨2, (k : Int), 0, 0⟩ ge) g.w (grows_nxc _ _ _ _ HNN.out g.h) (HX.out.grow (HBE.out.trans (g.h.mono HBE.out.size))) HXN.out HVX.out HVT.out (dD_ev _ HGE.out) (by have := HDL.out; omega) e1 e2 HEE1.out)
        have KM := Lib.hid (fun w => iv_mul e1 e2 f1 f2 w HEVV.out HFV.out)
        have KA := Lib.hid (fun w => iv_add l1 l2 m1 m2 w HLL.out hmv)
        rw [← hm1, ← hm2] at KM
        rw [← ha1, ← ha2] at KA
        have q0 := fun g : Grown w11 => heapN_cellj ((g.h.block X9 (by omega)).trans HCC.out) (k := 0) (u := .int .i64 l1) rfl
        have q1 := fun g : Grown w11 => heapN_cellj ((g.h.block X9 (by omega)).trans HCC.out) (k := 1) (u := .int .i64 l2) rfl
        have u0 := fun g : Grown w11 => heapN_cellj (HTT.out.grow g.h) (k := 0) (u := .int .i64 f1) rfl
        have u1 := fun g : Grown w11 => heapN_cellj (HTT.out.grow g.h) (k := 1) (u := .int .i64 f2) rfl
        have x0 := fun g : Grown w11 => heapN_cellj (HI.out.grow (HBE.out.trans (g.h.mono HBE.out.size))) (k := 0) (u := .int .i64 t1) rfl
        have x1 := fun g : Grown w11 => heapN_cellj (HI.out.grow (HBE.out.trans (g.h.mono HBE.out.size))) (k := 1) (u := .int .i64 t2) rfl
        clear hz hst hm hmv hmm hm1 hm2 haa ham ha1 ha2
        go_wp2_with (fail)
        refine region_pred_l (lk [(35, fun z_ _ => z_ = .agg #[.int .i64 l1, .int .i64 l2]), (36, fun z_ _ => z_ = .slice p8 (pre (dD ⟨2, (k : Int), 0, 0⟩ ge)).length c8), (37, fun z_ _ => z_ = .slice px X.length cx), (38, fun z_ _ => z_ = .agg #[.int .i64 t1, .int .i64 t2]), (39, fun z_ _ => z_ = .agg #[.int .i64 e1, .int .i64 e2]), (40, fun z_ _ => z_ = .agg #[.int .i64 f1, .int .i64 f2]), (41, fun z_ _ => z_ = .agg #[.int .i64 m1, .int .i64 m2]), (42, fun z_ _ => z_ = .agg #[.int .i64 a1, .int .i64 a2])]) 8 _ rfl (by kernel_rfl) (by kernel_rfl) (by kernel_rfl) (lk_steady _ ⟨steady_eq _, steady_eq _, steady_eq _, steady_eq _, steady_eq _, steady_eq _, steady_eq _, steady_eq _, trivial⟩) ?_ ?_
        · refine ⟨?_, ?_, ?_, ?_, ?_, ?_, ?_, ?_, ?_, trivial⟩
          · intro _
            refine ob_plain [9] rfl rfl fun aa g h => ?_
            have yy0 := seen_out (v := .pointer (some ⟨X9, 0, none⟩)) rfl rfl h.1
            have ee0 := getD_of yy0
            exact tupon_value (v := .agg #[.int .i64 l1, .int .i64 l2]) (by simp [go_sem, ee0, yy0, q0 g, q1 g]) (Below.refl _ _) rfl
          · intro _
            refine ob_plain [12] rfl rfl fun aa g h => ?_
            have yy0 := seen_out (v := .slice p8 (pre (dD ⟨2, (k : Int), 0, 0⟩ ge)).length c8) rfl rfl h.1
            have ee0 := getD_of yy0
            exact tupon_value (v := .slice p8 (pre (dD ⟨2, (k : Int), 0, 0⟩ ge)).length c8) (by simp [go_sem, ee0, yy0]) (Below.refl _ _) rfl
          · intro _
            refine ob_plain [2] rfl rfl fun aa g h => ?_
            have yy0 := seen_out (v := .slice px X.length cx) rfl rfl h.1
            have ee0 := getD_of yy0
            exact tupon_value (v := .slice px X.length cx) (by simp [go_sem, ee0, yy0]) (Below.refl _ _) rfl
          · intro _
            refine ob_plain [7] rfl rfl fun aa g h => ?_
            have yy0 := seen_out (v := .pointer (some ⟨w.heap.size + 1, 0, none⟩)) rfl rfl h.1
            have ee0 := getD_of yy0
            exact tupon_value (v := .agg #[.int .i64 t1, .int .i64 t2]) (by simp [go_sem, ee0, yy0, x0 g, x1 g]) (Below.refl _ _) rfl
          · intro _
            refine ob_plain [36, 37, 38] rfl rfl fun aa g h => ?_
            obtain ⟨_, yy0, rfl⟩ := seen_in rfl h.1
            have ee0 := getD_of yy0
            obtain ⟨_, yy1, rfl⟩ := seen_in rfl h.2.1
            have ee1 := getD_of yy1
            obtain ⟨_, yy2, rfl⟩ := seen_in rfl h.2.2.1
            have ee2 := getD_of yy2
            refine tupon_enter (f := 52) (args := #[.slice p8 (pre (dD ⟨2, (k : Int), 0, 0⟩ ge)).length c8, .slice px X.length cx, .agg #[.int .i64 t1, .int .i64 t2]]) (by simp [go_sem, ee0, yy0, ee1, yy1, ee2, yy2]) rfl ?_
            exact (KE.out g).mono fun e w' ⟨he, hB⟩ => ⟨_, he, hB, rfl⟩
          · intro _
            refine ob_plain [11] rfl rfl fun aa g h => ?_
            have yy0 := seen_out (v := .pointer (some ⟨wr.heap.size, 0, none⟩)) rfl rfl h.1
            have ee0 := getD_of yy0
            exact tupon_value (v := .agg #[.int .i64 f1, .int .i64 f2]) (by simp [go_sem, ee0, yy0, u0 g, u1 g]) (Below.refl _ _) rfl
          · intro _
            refine ob_plain [39, 40] rfl rfl fun aa g h => ?_
            obtain ⟨_, yy0, rfl⟩ := seen_in rfl h.1
            have ee0 := getD_of yy0
            obtain ⟨_, yy1, rfl⟩ := seen_in rfl h.2.1
            have ee1 := getD_of yy1
            refine tupon_enter (f := 57) (args := #[.agg #[.int .i64 e1, .int .i64 e2], .agg #[.int .i64 f1, .int .i64 f2]]) (by simp [go_sem, ee0, yy0, ee1, yy1]) rfl ?_
            exact (KM.out g.w).mono fun e w' ⟨he, hB⟩ => ⟨_, he, hB, rfl⟩
          · intro _
            refine ob_plain [35, 41] rfl rfl fun aa g h => ?_
            obtain ⟨_, yy0, rfl⟩ := seen_in rfl h.1
            have ee0 := getD_of yy0
            obtain ⟨_, yy1, rfl⟩ := seen_in rfl h.2.1
            have ee1 := getD_of yy1
            refine tupon_enter (f := 56) (args := #[.agg #[.int .i64 l1, .int .i64 l2], .agg #[.int .i64 m1, .int .i64 m2]]) (by simp [go_sem, ee0, yy0, ee1, yy1]) rfl ?_
            exact (KA.out g.w).mono fun e w' ⟨he, hB⟩ => ⟨_, he, hB, rfl⟩
          · exact fun h => absurd rfl h
        rintro w12 hB _ rfl _ rfl _ rfl _ rfl _ rfl _ rfl _ rfl _ rfl
        simp only [Act.put, List.setIfInBounds_toArray, List.set_cons_succ, List.set_cons_zero, List.filterMap_nil]
        have hc12 := (hB.block X9 (by omega)).trans HCC.out
        have q0 := heapN_cellj hc12 (k := 0) rfl
        have y0 : w12.frozen? ⟨X9, 0, none⟩ = false := by simp [World.frozen?, show w12.heap[X9]? = _ from hc12]
        have q1 := heapN_cellj hc12 (k := 1) rfl
        have y1 : w12.frozen? ⟨X9, 1, none⟩ = false := by simp [World.frozen?, show w12.heap[X9]? = _ from hc12]
        refine ⟨_, by simp [go_sem, q0, y0, q1, y1]; rfl, ?_⟩
        clear q0 y0 q1 y1
        obtain ⟨w13, ew13, HIw13, HOw13⟩ := set2 (h := hc12) (.int .i64 a1) (.int .i64 a2)
        rw [ew13]
        clear ew13
        have hb13 : Below E.heap.size E w13 := HOw13.bel (HBE.out.trans (hB.mono HBE.out.size)) hX9 (Nat.le_trans HBE.out.size hB.size)
        have HBF := Lib.hid hb13
        have HCF := Lib.hid HIw13
        have HOF := Lib.hid (own_oth (own_keptN HOO.out hB) HOw13 hw6)
        clear hb13 HIw13 HOw13 hc12 hB KE KM KA x0 x1 u0 u1 q0 q1
        go_wp2_with (fail)
        go_roundw
        case rel => exact ⟨k + 1, by go_num, by omega, Lib.hid (by rw [HS2.out]; exact HCF.out), HOF, HBF⟩
        case measure => simp [intOf]; omega
    · obtain rfl : k = FD.length := by omega
      have i3 : ¬ (FD.length : Int) < FD.length := by omega
      have hzz := HZZ.out
      rw [← HFL.out] at hzz
      rw [hzz] at HC
      have c0 := heapN_cellj HC.out (k := 0) (u := .int .i64 z1) rfl
      have c1 := heapN_cellj HC.out (k := 1) (u := .int .i64 z2) rfl
      have hrr := HR.out.grow HB.out
      have hsz := HB.out.size
      clear hvx2 hzz
      have q0 := heapN_cellj hrr (k := 0) rfl
      have q1 := heapN_cellj hrr (k := 1) rfl
      have y0 : wr.frozen? ⟨w.heap.size + 1 + 1, 0, none⟩ = false := by simp [World.frozen?, show wr.heap[w.heap.size + 1 + 1]? = _ from hrr]
      have y1 : wr.frozen? ⟨w.heap.size + 1 + 1, 1, none⟩ = false := by simp [World.frozen?, show wr.heap[w.heap.size + 1 + 1]? = _ from hrr]
      have HW9 := Lib.hid ((((below_then HE.out HB.out)).setCell (p := ⟨w.heap.size + 1 + 1, 0, none⟩) (by dsimp only; omega) (.int .i64 (z1))).setCell (p := ⟨w.heap.size + 1 + 1, 1, none⟩) (by dsimp only; omega) (.int .i64 (z2)))
      have hs9 := cellsT_setN (o := 1) (u := .int .i64 (z2)) (cellsT_setN (o := 0) (u := .int .i64 (z1)) hrr)
      have x0 := heapN_cellj hs9 (k := 0) (u := .int .i64 (z1)) rfl
      have x1 := heapN_cellj hs9 (k := 1) (u := .int .i64 (z2)) rfl
      clear hs9 hrr
      go_wp2_with (fail)
      exact bodyPost_ret (v := .agg #[.int .i64 (z1), .int .i64 (z2)]) (by simp [results, Tryz.results24, go_sem, x0, x1]) rfl ⟨rfl, HW9.out⟩
end Go.Proofs.YtbppfohcicepcaaGreat
