/-
  The reference's reduceOnce and Length.
  The reference's nextColumn and Orthogonalize.
  The reference's Orthogonalize: the same as the program's.
-/
import Derived.Test.YtmcdkbnpcmiojaaGreatRefH
import Derived.Test.YtmcdkbnpcmiojaaGreatRefM
import Derived.Test.YtmcdkbnpcmiojaaGreatOrthA
import Derived.Test.YtmcdkbnpcmiojaaGreatRefC
import Derived.Test.YtmcdkbnpcmiojaaGreatRefB
import Derived.Maps.AppendAt
namespace Go.Proofs.YtmcdkbnpcmiojaaGreat
open Go.ChangeShapes Go.WideShapes Go.ChangeAt Go.RowKit
set_option linter.unusedVariables false
set_option linter.unusedSimpArgs false
set_option maxRecDepth 100000

attribute [local irreducible] Calls
theorem cy_at {l : List Int} {j : Nat} {x : Int} (h : l[j]? = some x) : (cy l)[j]? = some (.int .i64 x) := by simp [cy, h]
theorem cy_put (l : List Int) (k : Nat) (x : Int) : cy (l.set k x) = (cy l).set k (.int .i64 x) := by simp [cy, List.map_set]
theorem cy_size (l : List Int) : (cy l).length = l.length := by simp [cy]
theorem cy_one4 (l : List Int) : ∀ u ∈ cy l, u.oneCell' = true := by
  intro u hu
  simp only [cy, List.mem_map] at hu
  obtain ⟨x, _, rfl⟩ := hu
  rfl
theorem nx_at {w : World} {p : Option Addr} {n c i m : Nat} {M : List (List Int)} {r : List Int} (h : Nx w (.slice p n c) M) (hr : M[i]? = some r) (hl : r.length = m) (h0 : 0 < m) : ∃ bO oO b o cc, p = some ⟨bO, oO, none⟩ ∧ bO < w.heap.size ∧ b < w.heap.size ∧ (∀ g : Grown w, g.w.cell? ⟨bO, oO + i, none⟩ = some (.slice (some ⟨b, o, none⟩) m cc)) ∧ ∀ (g : Grown w) (k : Nat) (x : Int), r[k]? = some x → g.w.cell? ⟨b, o + k, none⟩ = some (.int .i64 x) := by
  obtain ⟨b, o, u, hp, hb, rd⟩ := h.rd grows_pt hr
  subst hp
  have hbx := (rd ⟨w, Below.refl _ _⟩).2.2
  dsimp only at hbx
  obtain ⟨_, q, c2, rfl, hq⟩ := hbx
  rw [hl] at rd
  obtain ⟨x, hx⟩ : ∃ x, r[0]? = some x := ⟨_, List.getElem?_eq_getElem (by omega)⟩
  obtain ⟨b2, o2, rfl, hb2, _⟩ := hq 0 x hx
  refine ⟨b, o, b2, o2, c2, rfl, hb, hb2, fun g => (rd g).2.1, fun g k y hy => ?_⟩
  obtain ⟨b3, o3, e, h3, h4⟩ := hq k y hy
  simp only [Option.some.injEq, Addr.mk.injEq, and_true] at e
  obtain ⟨rfl, rfl⟩ := e
  exact (g.cell h3).trans h4
theorem pt_at {w : World} {p : Option Addr} {n c : Nat} {l : List Int} (h : Pt w (.slice p n c) l) (h0 : 0 < l.length) : ∃ b o, p = some ⟨b, o, none⟩ ∧ b < w.heap.size ∧ ∀ (g : Grown w) (k : Nat) (x : Int), l[k]? = some x → g.w.cell? ⟨b, o + k, none⟩ = some (.int .i64 x) := by
  obtain ⟨_, q, c2, e, hq⟩ := h
  simp only [Value.slice.injEq] at e
  have e1 := e.1
  subst e1
  obtain ⟨x, hx⟩ : ∃ x, l[0]? = some x := ⟨_, List.getElem?_eq_getElem h0⟩
  obtain ⟨b2, o2, rfl, hb2, _⟩ := hq 0 x hx
  refine ⟨b2, o2, rfl, hb2, fun g k y hy => ?_⟩
  obtain ⟨b3, o3, e, h3, h4⟩ := hq k y hy
  simp only [Option.some.injEq, Addr.mk.injEq, and_true] at e
  obtain ⟨rfl, rfl⟩ := e
  exact (g.cell h3).trans h4
theorem own_cutJ {W : World} {B m : Nat} {v : Value} {xs : List Value} (h : W.ownsRow B 2 1 v m xs) (hm : 0 < m) : ∃ g c, v = .slice (some ⟨g, 0, none⟩) m c := by
  rcases h.2 with ⟨_, h0⟩ | ⟨g, cap, _, h, _⟩
  · omega
  · exact ⟨g, cap, h⟩
theorem load_n {w0 : World} {b o : Nat} {x : Int} (hb : b < w0.heap.size) (h0 : w0.cell? ⟨b, o, none⟩ = some (.int .i64 x)) :
    ∀ g : Grown w0, (Instr.loadAt 2 (.pointer (some ⟨b, o, none⟩))).run Tryz.prog g.w = .ok (.int .i64 x) g.w := fun g => by
  have h0' := (g.cell (o := o) hb).trans h0
  simp [go_sem, h0']
theorem part_at {y u : List Int} {j : Nat} {a b : Int} (h1 : y[j]? = some a) (h2 : u[j]? = some b) : (partL y u)[j]? = some (dn (a * b) 65536) := by
  unfold partL
  rw [List.getElem?_map, (List.getElem?_zip_eq_some (z := (a, b))).2 ⟨h1, h2⟩]
  rfl
theorem without_at {y u : List Int} {j : Nat} {a b : Int} (h1 : y[j]? = some a) (h2 : u[j]? = some b) : (withoutV y u)[j]? = some (a - dn (alongV y u * b) 65536) := by
  unfold withoutV
  rw [List.getElem?_map, (List.getElem?_zip_eq_some (z := (a, b))).2 ⟨h1, h2⟩]
  rfl
theorem take_sum {l : List Int} {j : Nat} {z : Int} (h : l[j]? = some z) : (l.take (j + 1)).sum = (l.take j).sum + z := by
  rw [List.take_add_one, h]
  simp
theorem part_lim {y u : List Int} (hy : ∀ a ∈ y, -67108864 ≤ a ∧ a ≤ 67108864) (hu : ∀ a ∈ u, -131072 ≤ a ∧ a ≤ 131072) (hl : (partL y u).length ≤ 6) (j : Nat) : -805306368 ≤ ((partL y u).take j).sum ∧ ((partL y u).take j).sum ≤ 805306368 := by
  have h := sum_bd ((partL y u).take j) 134217728 fun p hp => part_bd hy hu p (List.mem_of_mem_take hp)
  have : ((partL y u).take j).length ≤ 6 := by rw [List.length_take]; omega
  omega
set_option maxHeartbeats 32000000 in
theorem r4reduce (vw vc : Value) (x : List Int) (us : List (List Int)) (n : Nat) (w : World) (hw : Pt w vw x) (hc : Nx w vc us) (hx : x.length = n) (hu : ∀ u ∈ us, u.length = n ∧ ∀ a ∈ u, -131072 ≤ a ∧ a ≤ 131072)
    (hb : ∀ i, i ≤ us.length → (passV (us.take i) x).length = n ∧ ∀ a ∈ passV (us.take i) x, -67108864 ≤ a ∧ a ≤ 67108864) (h1 : 1 ≤ n) (h6 : n ≤ 6) (hul : us.length ≤ 6) :
    Calls Tryz.prog 94 #[vw, vc] w fun e w' => ∃ g c, e = .returned (.slice (some ⟨g, 0, none⟩) n c) ∧ w'.ownsRow w.heap.size 2 1 (.slice (some ⟨g, 0, none⟩) n c) n (cy (passV us x)) ∧ Below w.heap.size w w' := by
  obtain ⟨i0, hi, hz0, hz1, hz2⟩ := info_parts info_i64
  obtain ⟨pw, cw, rfl⟩ : ∃ p c, vw = .slice p n c := by
    obtain ⟨_, p, c, e, _⟩ := hw
    exact ⟨p, c, by rw [e, hx]⟩
  obtain ⟨bw, ow, rfl, hbw, hcw⟩ := pt_at hw (by omega)
  obtain ⟨pc, cc, rfl⟩ := hc.cut
  have hba : Below w.heap.size w (w.alloc (.cells #[] 2)) := (Below.refl _ _).alloc (Nat.le_refl _) _
  have HCS : Hid (∀ j u, (cy x)[j]? = some u → (w.alloc (.cells #[] 2)).cell? ((⟨bw, ow, none⟩ : Addr).add j) = some u) := Lib.hid (fun j u hj => by
    have hjl : j < x.length := by rw [← cy_size]; exact (List.getElem?_eq_some_iff.1 hj).1
    have hxj := List.getElem?_eq_getElem hjl
    rw [cy_at hxj] at hj
    rw [← hj, add_off4]
    exact hcw ⟨_, hba⟩ j _ hxj)
  have HOW0 : Hid ((w.alloc (.cells #[] 2)).ownsRow w.heap.size 2 1 (.slice (some ⟨w.heap.size, 0, none⟩) 0 0) 0 []) := Lib.hid (by simpa using World.ownsRow_made (e := 2) (size := 1) w #[] 0 (Nat.le_refl _) (by decide) rfl)
  have HCL : Hid ((cy x).length = n * 1) := Lib.hid (by rw [cy_size, hx, Nat.mul_one])
  have HC := Lib.hid hc
  have HU := Lib.hid hu
  have HB := Lib.hid hb
  clear hw hc hx hu hb hcw
  go_enter Tryz.func94, Tryz.ntmps94
  go_wp2_with (at_builtin; refine wpList_append_own _ rfl (.tmp 10) (.tmp 11) 26 rfl w.heap.size 2 i0 (.int .i64 0) 1 8 Tryz.underlying26 hi hz0 hz1 hz2 rfl (by decide) (.slice (some ⟨w.heap.size, 0, none⟩) 0 0) 0 [] rfl HOW0.out ⟨bw, ow, none⟩ n cw (cy x) rfl HCL.out HCS.out (cy_one4 x) (by unfold maxLen; omega) (by omega) (by simp) ?_)
  intro v5 w5 hown5 hgrow5 _
  replace hown5 : w5.ownsRow w.heap.size 2 1 v5 n (cy x) := by simpa using hown5
  obtain ⟨g, cg, rfl⟩ := own_cutJ hown5 (by omega)
  have hB5 : Below w.heap.size w w5 := Below.grown hba hgrow5 (by simp) (fun q hq => by simp only [Value.ownBlock, Option.some.injEq] at hq; omega)
  have HOW5 := Lib.hid hown5
  clear hown5 hgrow5 HCS HOW0 HCL hba
  go_wp2_with (fail)
  go_loopw [6] (fun i wr => ∃ d : Nat, i = .int .i64 d ∧ d ≤ us.length ∧ Hid (wr.ownsRow w.heap.size 2 1 (.slice (some ⟨g, 0, none⟩) n cg) n (cy (passV (us.take d) x))) ∧ Below w.heap.size w wr) (fun i _ => us.length - (intOf i).toNat)
  case atStart => exact ⟨0, rfl, Nat.zero_le _, HOW5, hB5⟩
  case round =>
    clear HOW5 hB5
    obtain ⟨d, rfl, hd, HOW, hB⟩ := hrel
    by_cases hlt : d < us.length
    · have idk : (d : Int) < us.length := by omega
      obtain ⟨u, hud⟩ : ∃ u, us[d]? = some u := ⟨_, List.getElem?_eq_getElem hlt⟩
      obtain ⟨hul', hub⟩ := HU.out u (List.mem_of_getElem? hud)
      obtain ⟨bC, oC, bU, oU, cU, rfl, hbC, hbU, f1, f2⟩ := nx_at HC.out hud hul' (by omega)
      obtain ⟨hyl, hyb⟩ := HB.out d hd
      have hnext : passV (us.take (d + 1)) x = withoutV (passV (us.take d) x) u := by
        unfold passV
        rw [List.take_add_one, hud, Option.toList_some, List.foldl_append]
        rfl
      obtain ⟨y, hy⟩ : ∃ y, passV (us.take d) x = y := ⟨_, rfl⟩
      rw [hy] at HOW hyl hyb hnext
      have hpl : (partL y u).length = n := by unfold partL; rw [List.length_map, List.length_zip, hyl, hul']; omega
      have hpb := part_lim hyb hub (by rw [hpl]; exact h6)
      have HPB := Lib.hid hpb
      have HPL := Lib.hid hpl
      have HYL := Lib.hid hyl
      have HYB := Lib.hid hyb
      have HUL := Lib.hid hul'
      have HUB := Lib.hid hub
      have HNX := Lib.hid hnext
      have HF1 := Lib.hid f1
      have HF2 := Lib.hid f2
      obtain ⟨W1, hW1⟩ : ∃ W, W = wr := ⟨_, rfl⟩
      subst hW1
      have hgW := (HOW.out.lt g rfl).2
      have hbC1 : bC < W1.heap.size := Nat.lt_of_lt_of_le hbC hB.size
      have hbU1 : bU < W1.heap.size := Nat.lt_of_lt_of_le hbU hB.size
      clear hud hul' hub f1 f2 hyl hyb hnext hy hpl hpb
      go_wp2_with (fail)
      go_loopw [7, 8] (fun c k wr => ∃ j : Nat, k = .int .i64 j ∧ j ≤ n ∧ c = .int .i64 ((partL y u).take j).sum ∧ ∃ g : Grown W1, wr = g.w) (fun _ k _ => n - (intOf k).toNat)
      case atStart => exact ⟨0, rfl, Nat.zero_le _, by simp, ⟨W1, Below.refl _ _⟩, rfl⟩
      case round =>
        obtain ⟨j, rfl, hj, rfl, g0, rfl⟩ := hrel
        by_cases hjn : j < n
        · have ijn : (j : Int) < n := by omega
          obtain ⟨a, ha⟩ : ∃ a, y[j]? = some a := ⟨_, List.getElem?_eq_getElem (by rw [HYL.out]; exact hjn)⟩
          obtain ⟨b, hb⟩ : ∃ b, u[j]? = some b := ⟨_, List.getElem?_eq_getElem (by rw [HUL.out]; exact hjn)⟩
          have hab := HYB.out a (List.mem_of_getElem? ha)
          have hbb := HUB.out b (List.mem_of_getElem? hb)
          have hm := mul_bound a b 67108864 131072 hab.1 hab.2 hbb.1 hbb.2
          have q0 := HOW.out.cellAt j (by omega)
          rw [cy_at ha] at q0
          have fA := fun gg : Grown W1 => (gg.cell hgW).trans q0
          have fB := fun gg : Grown W1 => HF1.out ⟨gg.w, below_then hB gg.h⟩
          have fC := fun gg : Grown W1 => HF2.out ⟨gg.w, below_then hB gg.h⟩ j b hb
          dsimp only at fB fC
          obtain ⟨pr, hpr⟩ : ∃ pr, a * b = pr := ⟨_, rfl⟩
          rw [hpr] at hm
          have hcd := fun w => down_any pr 65536 w (by omega) (by omega) (by decide)
          obtain ⟨z, hz⟩ : ∃ z, dn pr 65536 = z := ⟨_, rfl⟩
          have hsum : ((partL y u).take (j + 1)).sum = ((partL y u).take j).sum + z := take_sum (by rw [part_at ha hb, hpr, hz])
          have hs1 := HPB.out j
          have hs2 := HPB.out (j + 1)
          rw [hsum] at hs2
          rw [hz] at hcd
          have HC1 := Lib.hid hcd
          have HSM := Lib.hid hsum
          have W1' := wrap_ok (a * b) (by omega) (by omega)
          have W2' := wrap_ok (((partL y u).take j).sum + z) (by omega) (by omega)
          rw [hpr] at W1'
          clear ha hb hab hbb hz hsum hcd q0
          generalize ((partL y u).take j).sum = S at *
          go_wp2_with (fail)
          refine region_quiet' g0 (by kernel_rfl) (by kernel_rfl) ?_
          repeat (go_big_quiet_step (first | (simp only [hpr]; exact qs (HC1.out _)) | exact qs (HC1.out _)))
          refine wpQuiet_nil ?_
          rintro _ ⟨g1, rfl⟩
          go_wp2_with (fail)
          go_roundw
          case rel => exact ⟨j + 1, by go_num, by omega, by rw [HSM.out], g1, rfl⟩
          case measure => simp [intOf]; omega
        · obtain rfl : j = n := by omega
          have hal : ((partL y u).take j).sum = alongV y u := by
            unfold alongV
            rw [List.take_of_length_le (by rw [HPL.out]; exact Nat.le_refl _)]
          have hab := HPB.out j
          rw [hal] at hab
          rw [hal]
          obtain ⟨A, hA⟩ : ∃ A, alongV y u = A := ⟨_, rfl⟩
          rw [hA] at hab
          rw [hA]
          obtain ⟨z, hz⟩ : ∃ z, withoutV y u = z := ⟨_, rfl⟩
          have hzl : z.length = j := by rw [← hz]; unfold withoutV; rw [List.length_map, List.length_zip, HYL.out, HUL.out]; omega
          have hB1 := below_then hB g0.h
          have HA := Lib.hid hA
          have HZ := Lib.hid hz
          have HZL := Lib.hid hzl
          have HO1 : Hid (g0.w.ownsRow w.heap.size 2 1 (.slice (some ⟨g, 0, none⟩) j cg) j (cy (z.take 0 ++ y.drop 0))) := Lib.hid (by simpa using HOW.out.kept (grown_below g0.h) (.inr (by simp [Value.ownBlock])))
          clear hal hA hz hzl
          go_wp2_with (fail)
          go_loopw [9] (fun k wr => ∃ t : Nat, k = .int .i64 t ∧ t ≤ j ∧ Hid (wr.ownsRow w.heap.size 2 1 (.slice (some ⟨g, 0, none⟩) j cg) j (cy (z.take t ++ y.drop t))) ∧ Below w.heap.size w wr) (fun k _ => j - (intOf k).toNat)
          case atStart => exact ⟨0, rfl, Nat.zero_le _, HO1, hB1⟩
          case round =>
            clear HO1 hB1
            obtain ⟨t, rfl, ht, HO, hBt⟩ := hrel
            by_cases htj : t < j
            · have itj : (t : Int) < j := by omega
              obtain ⟨a, ha⟩ : ∃ a, y[t]? = some a := ⟨_, List.getElem?_eq_getElem (by rw [HYL.out]; exact htj)⟩
              obtain ⟨b, hb⟩ : ∃ b, u[t]? = some b := ⟨_, List.getElem?_eq_getElem (by rw [HUL.out]; exact htj)⟩
              have hya := HYB.out a (List.mem_of_getElem? ha)
              have hbb := HUB.out b (List.mem_of_getElem? hb)
              have hm := mul_bound A b 805306368 131072 hab.1 hab.2 hbb.1 hbb.2
              have hmix : (z.take t ++ y.drop t)[t]? = some a := by rw [td_at (by rw [HZL.out, HYL.out]) (by rw [HZL.out]; exact ht), ha]
              have q0 := HO.out.cellAt t (by omega)
              rw [cy_at hmix] at q0
              have z0 := HO.out.frozenAt t
              obtain ⟨pr, hpr⟩ : ∃ pr, A * b = pr := ⟨_, rfl⟩
              rw [hpr] at hm
              have hcd := fun w => down_any pr 65536 w (by omega) (by omega) (by decide)
              have hdl := dn_mul pr (d := 65536) (by decide)
              obtain ⟨e, he⟩ : ∃ e, dn pr 65536 = e := ⟨_, rfl⟩
              rw [he] at hcd hdl
              have hzt : z[t]? = some (a - e) := by rw [← HZ.out, without_at ha hb, HA.out, hpr, he]
              have hset : (z.take t ++ y.drop t).set t (a - e) = z.take (t + 1) ++ y.drop (t + 1) := td_set hzt (by rw [HZL.out, HYL.out])
              have HC1 := Lib.hid hcd
              have HST := Lib.hid hset
              have hgt := (HO.out.lt g rfl).2
              have hgb := (HO.out.lt g rfl).1
              have fB := HF1.out ⟨wr, hBt⟩
              have fC := HF2.out ⟨wr, hBt⟩ t b hb
              dsimp only at fB fC
              have hbC2 : bC < wr.heap.size := Nat.lt_of_lt_of_le hbC hBt.size
              have hbU2 : bU < wr.heap.size := Nat.lt_of_lt_of_le hbU hBt.size
              have W1' := wrap_ok (A * b) (by omega) (by omega)
              rw [hpr] at W1'
              have W2' := wrap_ok (a - e) (by omega) (by omega)
              clear ha hb hmix he hzt hset hcd
              go_wp2_with (fail)
              refine region_data 18 48 _ (by kernel_rfl) new_iv (by kernel_rfl) ?_
              refine data_op (.slice (some ⟨g, 0, none⟩) j cg) rfl (RQ_pure (fun w => by simp [go_sem])) ?_
              simp only [Act.put, List.setIfInBounds_toArray, List.set_cons_succ, List.set_cons_zero]
              refine data_op (.int .i64 (t : Int)) rfl (RQ_pure (fun w => by simp [go_sem])) ?_
              simp only [Act.put, List.setIfInBounds_toArray, List.set_cons_succ, List.set_cons_zero]
              refine data_op (.slice (some ⟨g, 0, none⟩) j cg) rfl (RQ_pure (fun w => by simp [go_sem])) ?_
              simp only [Act.put, List.setIfInBounds_toArray, List.set_cons_succ, List.set_cons_zero]
              refine data_op (.int .i64 (t : Int)) rfl (RQ_pure (fun w => by simp [go_sem])) ?_
              simp only [Act.put, List.setIfInBounds_toArray, List.set_cons_succ, List.set_cons_zero]
              refine data_op (.pointer (some ⟨g, t, none⟩)) rfl (RQ_pure (fun w => by simp [go_sem, itj])) ?_
              simp only [Act.put, List.setIfInBounds_toArray, List.set_cons_succ, List.set_cons_zero]
              refine data_op (.int .i64 a) rfl (RQ_load rfl rfl (load_n hgt q0)) ?_
              simp only [Act.put, List.setIfInBounds_toArray, List.set_cons_succ, List.set_cons_zero]
              refine data_op (.int .i64 A) rfl (RQ_pure (fun w => by simp [go_sem])) ?_
              simp only [Act.put, List.setIfInBounds_toArray, List.set_cons_succ, List.set_cons_zero]
              refine data_op (.slice (some ⟨bC, oC, none⟩) us.length cc) rfl (RQ_pure (fun w => by simp [go_sem])) ?_
              simp only [Act.put, List.setIfInBounds_toArray, List.set_cons_succ, List.set_cons_zero]
              refine data_op (.int .i64 (d : Int)) rfl (RQ_pure (fun w => by simp [go_sem])) ?_
              simp only [Act.put, List.setIfInBounds_toArray, List.set_cons_succ, List.set_cons_zero]
              refine data_op (.pointer (some ⟨bC, oC + d, none⟩)) rfl (RQ_pure (fun w => by simp [go_sem, idk])) ?_
              simp only [Act.put, List.setIfInBounds_toArray, List.set_cons_succ, List.set_cons_zero]
              refine data_op (.slice (some ⟨bU, oU, none⟩) j cU) rfl (RQ_load rfl rfl (load_sl (fun w h => by simp [go_sem, h]) hbC2 fB)) ?_
              simp only [Act.put, List.setIfInBounds_toArray, List.set_cons_succ, List.set_cons_zero]
              refine data_op (.int .i64 (t : Int)) rfl (RQ_pure (fun w => by simp [go_sem])) ?_
              simp only [Act.put, List.setIfInBounds_toArray, List.set_cons_succ, List.set_cons_zero]
              refine data_op (.pointer (some ⟨bU, oU + t, none⟩)) rfl (RQ_pure (fun w => by simp [go_sem, itj])) ?_
              simp only [Act.put, List.setIfInBounds_toArray, List.set_cons_succ, List.set_cons_zero]
              refine data_op (.int .i64 b) rfl (RQ_load rfl rfl (load_n hbU2 fC)) ?_
              simp only [Act.put, List.setIfInBounds_toArray, List.set_cons_succ, List.set_cons_zero]
              refine data_op (.int .i64 pr) rfl (RQ_pure (fun w => by simp [go_sem, hpr, W1'])) ?_
              simp only [Act.put, List.setIfInBounds_toArray, List.set_cons_succ, List.set_cons_zero]
              refine data_op (.int .i64 e) rfl (RQ_call_same HC1.out (fun _ => by simp [go_sem])) ?_
              simp only [Act.put, List.setIfInBounds_toArray, List.set_cons_succ, List.set_cons_zero]
              refine data_op (.int .i64 (a - e)) rfl (RQ_pure (fun w => by simp [go_sem, W2'])) ?_
              simp only [Act.put, List.setIfInBounds_toArray, List.set_cons_succ, List.set_cons_zero]
              refine data_op (.pointer (some ⟨g, t, none⟩)) rfl (RQ_pure (fun w => by simp [go_sem, itj])) ?_
              simp only [Act.put, List.setIfInBounds_toArray, List.set_cons_succ, List.set_cons_zero]
              refine data_end ?_
              intro w6 hB6
              simp only [Act.put, List.drop_succ_cons, List.drop_zero, List.take_succ_cons, List.take_zero, alDsts, List.filterMap_cons, List.filterMap_nil, isAl, Bool.false_eq_true, if_false, if_true, finK]
              have hown6 := HO.out.kept (grown_below hB6) (.inr (by simp [Value.ownBlock]))
              have q6 := (hB6.cell (p := ⟨g, t, none⟩) hgt).trans q0
              have z6 := hown6.frozenAt t
              have hst := (hown6.stored t (.int .i64 (a - e))).1
              rw [← cy_put, HST.out] at hst
              have HOS := Lib.hid hst
              have hBs : Below w.heap.size w (w6.setCell ⟨g, t, none⟩ (.int .i64 (a - e))) := (below_then hBt hB6).setCell (p := ⟨g, t, none⟩) hgb _
              clear hst hown6 fB fC q0 z0
              go_wp2_with (fail)
              go_roundw
              case rel => exact ⟨t + 1, by go_num, by omega, HOS, hBs⟩
              case measure => simp [intOf]; omega
            · obtain rfl : t = j := by omega
              have ho := HO.out
              rw [List.take_of_length_le (by rw [HZL.out]; exact Nat.le_refl _), List.drop_of_length_le (by rw [HYL.out]; exact Nat.le_refl _), List.append_nil, ← HZ.out, ← HNX.out] at ho
              have HO2 := Lib.hid ho
              clear ho
              go_wp2_with (fail)
              go_roundw
              case rel => exact ⟨d + 1, by go_num, by omega, HO2, hBt⟩
              case measure => simp [intOf]; omega
    · obtain rfl : d = us.length := by omega
      rw [List.take_length] at HOW
      go_wp2_with (fail)
      go_ret
      exact ⟨g, cg, rfl, HOW.out, hB⟩
theorem sq_take {x : List Int} {j : Nat} {a : Int} (h : x[j]? = some a) : sqV (x.take (j + 1)) = sqV (x.take j) + a * a := by
  unfold sqV
  rw [List.take_add_one, h]
  simp
theorem sqV_bd {x : List Int} {B : Int} (h : ∀ a ∈ x, 0 ≤ a * a ∧ a * a ≤ B) : 0 ≤ sqV x ∧ sqV x ≤ B * x.length := by
  induction x with
  | nil => simp [sqV]
  | cons a x ih =>
    have h1 := h a (by simp)
    have h2 := ih fun b hb => h b (by simp [hb])
    have e : sqV (a :: x) = a * a + sqV x := by simp [sqV]
    have e2 : B * ((a :: x).length : Int) = B * x.length + B := by rw [List.length_cons]; push_cast; rw [Int.mul_add, Int.mul_one]
    omega
set_option maxHeartbeats 4000000 in
theorem r4length (v : Value) (x : List Int) (w : World) (hv : Pt w v x) (hl : x.length ≤ 6) (hb : ∀ a ∈ x, -67108864 ≤ a ∧ a ≤ 67108864) :
    Calls Tryz.prog 95 #[v] w fun e w' => e = .returned (.int .i64 (isq (sqV x))) ∧ Below w.heap.size w w' := by
  have hsq : ∀ a ∈ x, 0 ≤ a * a ∧ a * a ≤ 4503599627370496 := fun a ha => by
    have h := hb a ha
    have := mul_bound a a 67108864 67108864 h.1 h.2 h.1 h.2
    exact ⟨sq4_nn a, by omega⟩
  have hbd : ∀ j, 0 ≤ sqV (x.take j) ∧ sqV (x.take j) ≤ 27021597764222976 := fun j => by
    have h := sqV_bd (x := x.take j) fun a ha => hsq a (List.mem_of_mem_take ha)
    have : (x.take j).length ≤ 6 := by rw [List.length_take]; omega
    omega
  obtain ⟨_, p, c, rfl, hp⟩ := hv
  have HSQ := Lib.hid hsq
  have HBD := Lib.hid hbd
  obtain ⟨q, hq⟩ : ∃ q, isq (sqV x) = q := ⟨_, rfl⟩
  rw [hq]
  have HQ := Lib.hid hq
  clear hsq hbd hb hq
  go_enter Tryz.func95, Tryz.ntmps95
  go_wp2_with (fail)
  go_loopw [3, 4] (fun s i wr => ∃ k : Nat, i = .int .i64 k ∧ k ≤ x.length ∧ s = .int .i64 (sqV (x.take k)) ∧ Below w.heap.size w wr) (fun _ i _ => x.length - (intOf i).toNat)
  case atStart => exact ⟨0, rfl, Nat.zero_le _, by simp [sqV], Below.refl _ _⟩
  case round =>
    obtain ⟨k, rfl, hk, rfl, hB⟩ := hrel
    by_cases hlt : k < x.length
    · have ik : (k : Int) < x.length := by omega
      obtain ⟨ba, oa, a, rfl, ha, hba, ca⟩ := Pt.at (c := 0) (n := 0) hp hlt hB
      have haa := HSQ.out a (List.mem_of_getElem? ha)
      have hs := HBD.out k
      have hn := sq_take ha
      have HN := Lib.hid hn
      clear hn ha hp
      generalize sqV (x.take k) = S at *
      obtain ⟨P, hP⟩ : ∃ P, a * a = P := ⟨_, rfl⟩
      rw [hP] at haa HN
      have W1 := wrap_ok (a * a) (by omega) (by omega)
      have W2 := wrap_ok (S + a * a) (by omega) (by omega)
      go_wp2_with (fail)
      go_quiet (fail)
      go_wp2_with (fail)
      go_roundw
      case rel => exact ⟨k + 1, by go_num, by omega, by rw [HN.out, ← hP], below_drewN hB _⟩
      case measure => simp [intOf]; omega
    · obtain rfl : k = x.length := by omega
      have hs := HBD.out x.length
      rw [List.take_length] at hs
      rw [List.take_length]
      obtain ⟨S, hS⟩ : ∃ S, sqV x = S := ⟨_, rfl⟩
      rw [hS] at hs
      rw [hS]
      have hq := HQ.out
      rw [hS] at hq
      have hsp := isq_spec hs.1
      have hle : ∀ m, 0 ≤ m → m * m ≤ S → m ≤ q := fun m h0 h => by rw [← hq]; exact le_isq hs.1 h
      have hgt : ∀ m, 0 ≤ m → S < m * m → q < m := fun m h0 h => by rw [← hq]; exact isq_lt hs.1 h h0
      have hqb : q < 2147483648 := hgt 2147483648 (by decide) (by omega)
      have hq0 : 0 ≤ q := by rw [← hq]; exact hsp.1
      have HLE := Lib.hid hle
      have HGT := Lib.hid hgt
      clear hS hq hsp hle hgt hp
      go_wp2_with (fail)
      go_loopw [5, 6] (fun lo hi wr => ∃ l h : Int, lo = .int .i64 l ∧ hi = .int .i64 h ∧ 0 ≤ l ∧ l ≤ q ∧ q ≤ h ∧ h ≤ 2147483648 ∧ Below w.heap.size w wr) (fun lo hi _ => (intOf hi - intOf lo).toNat)
      case atStart => exact ⟨0, 2147483648, rfl, rfl, by decide, hq0, by omega, by decide, hB⟩
      case round =>
        obtain ⟨l, h, rfl, rfl, l0, lq, qh, hh, hB2⟩ := hrel
        by_cases hlh : l < h
        · obtain ⟨m, hm⟩ : ∃ m, (l + h + 1) / 2 = m := ⟨_, rfl⟩
          have ht : (l + h + 1).tdiv 2 = m := by rw [Int.tdiv_eq_ediv_of_nonneg (by omega), hm]
          have m1 : l < m ∧ m ≤ h := by omega
          have mm := mul_bound m m 2147483648 2147483648 (by omega) (by omega) (by omega) (by omega)
          obtain ⟨P, hP⟩ : ∃ P, m * m = P := ⟨_, rfl⟩
          have W1 := wrap_ok (l + h) (by omega) (by omega)
          have W2 := wrap_ok (l + h + 1) (by omega) (by omega)
          have W3 := wrap_ok (m * m) (by omega) (by omega)
          have W4 := wrap_ok m (by omega) (by omega)
          have W5 := wrap_ok (m - 1) (by omega) (by omega)
          rw [hP] at mm W3
          by_cases hd : P ≤ S
          · have hmq := HLE.out m (by omega) (by rw [hP]; exact hd)
            clear hm
            go_wp2_with (fail)
            go_roundw
            case rel => exact ⟨m, h, rfl, rfl, by omega, hmq, qh, hh, hB2⟩
            case measure => simp [intOf]; omega
          · have hmq := HGT.out m (by omega) (by rw [hP]; omega)
            have hd' : S < P := by omega
            clear hm
            go_wp2_with (fail)
            go_roundw
            case rel => exact ⟨l, m - 1, rfl, rfl, l0, lq, by omega, by omega, hB2⟩
            case measure => simp [intOf]; omega
        · have hl' : l = q := by omega
          have hh' : h = q := by omega
          subst hl'
          rw [hh']
          go_wp2_with (fail)
          go_ret
          exact ⟨rfl, hB2⟩
end Go.Proofs.YtmcdkbnpcmiojaaGreat

namespace Go.Proofs.YtmcdkbnpcmiojaaGreat
open Go.ChangeShapes Go.WideShapes Go.ChangeAt Go.RowKit
set_option linter.unusedVariables false
set_option linter.unusedSimpArgs false
set_option maxRecDepth 100000

attribute [local irreducible] Calls
theorem pt_of {w : World} {B g n c : Nat} {r : List Int} (h : w.ownsRow B 2 1 (.slice (some ⟨g, 0, none⟩) n c) n (cy r)) (hl : r.length = n) (hn : n ≤ 100) : Pt w (.slice (some ⟨g, 0, none⟩) n c) r := by
  subst hl
  exact pt_own h (by unfold maxLen; omega)
theorem own_monoJ {B B' : Nat} {w : World} {R m c : Nat} {xs : List Value} (h : w.ownsRow B' 2 1 (.slice (some ⟨R, 0, none⟩) m c) m xs) (hb : B ≤ B') : w.ownsRow B 2 1 (.slice (some ⟨R, 0, none⟩) m c) m xs := by
  rcases h.2 with ⟨e, e2⟩ | ⟨g, cap, cur, e, hg, r⟩
  · exact ⟨h.1, .inl ⟨e, e2⟩⟩
  · exact ⟨h.1, .inr ⟨g, cap, cur, e, Nat.le_trans hb hg, r⟩⟩
/-- One pass of the reference over a good frame. -/
theorem r4pass (vw vc : Value) (x : V4) (fs : List V4) (n : Nat) (t : Int) (w : World) (hw : Pt w vw (x.fst n)) (hc : Nx w vc (fs.map fun q => q.fst n)) (h1 : 1 ≤ n) (h4 : n ≤ 4) (hx : x.sup n) (hs : ∀ q ∈ fs, q.nrm ∧ q.sup n)
    (t0 : 0 ≤ t) (t1 : t + fs.length ≤ 20) (hl : fs.length ≤ 4) (hn : x.dot x ≤ 1125899906842624 + t * 134218240) :
    Calls Tryz.prog 94 #[vw, vc] w fun e w' => ∃ g c, e = .returned (.slice (some ⟨g, 0, none⟩) n c) ∧ w'.ownsRow w.heap.size 2 1 (.slice (some ⟨g, 0, none⟩) n c) n (cy ((pass4 fs x).fst n)) ∧ Below w.heap.size w w' := by
  have e := pass_fst h1 h4 fs x hx fun q hq => (hs q hq).2
  rw [← e]
  refine r4reduce vw vc (x.fst n) _ n w hw hc (fst_len x h4) (fun u hu => ?_) (fun i hi => ?_) h1 (by omega) (by rw [List.length_map]; omega)
  · rw [List.mem_map] at hu
    obtain ⟨q, hq, rfl⟩ := hu
    refine ⟨fst_len q h4, fun a ha => ?_⟩
    have := fst_bd (hs q hq).1 n a ha
    omega
  · rw [← List.map_take, pass_fst h1 h4 _ x hx fun q hq => (hs q (List.mem_of_mem_take hq)).2]
    refine ⟨fst_len _ h4, fun a ha => ?_⟩
    have hle : (fs.take i).length ≤ fs.length := by rw [List.length_take]; omega
    have h2 := fold_norm (fs.take i) x t (fun q hq => (hs q (List.mem_of_mem_take hq)).1) t0 (by omega) hn
    have := fst_lim (A := 33554532) (by decide) (by omega) n a ha
    omega
theorem cand_scl {fs : List V4} {w : V4} (hl : fs.length ≤ 4) (hn : ∀ q ∈ fs, q.nrm) (hw : w.dot w ≤ 1125899906842624) : normV (redV (fs.map V4.l) w.l) = ((red4 fs w).scl (lenV (redV (fs.map V4.l) w.l))).l := by
  rw [red_l, nrm_l]
theorem len_cand {n : Nat} {fs : List V4} {w : V4} (h1 : 1 ≤ n) (h4 : n ≤ 4) (hl : fs.length ≤ 4) (hs : ∀ q ∈ fs, q.nrm ∧ q.sup n) (hw : w.dot w ≤ 1125899906842624) (hsw : w.sup n) : isq (sqV ((red4 fs w).fst n)) = lenV (redV (fs.map V4.l) w.l) := by
  rw [red_l, sq_fst h1 h4 (sup_red hsw fun q hq => (hs q hq).2), len_isq (red_norm (fun q hq => (hs q hq).1) hl hw)]
set_option maxHeartbeats 32000000 in
theorem r4next (vw vc : Value) (x : V4) (fs : List V4) (n : Nat) (w : World) (hw : Pt w vw (x.fst n)) (hc : Nx w vc (fs.map fun q => q.fst n)) (h1 : 1 ≤ n) (h4 : n ≤ 4) (hx : x.sup n) (hs : ∀ q ∈ fs, q.nrm ∧ q.sup n) (hl : fs.length < n) (hn : x.dot x ≤ 1125899906842624) (y : V4) (hy : dirV (fs.map V4.l) x.l n = y.l) :
    Calls Tryz.prog 66 #[vw, vc] w fun e w' => ∃ g c, e = .returned (.slice (some ⟨g, 0, none⟩) n c) ∧ w'.ownsRow w.heap.size 2 1 (.slice (some ⟨g, 0, none⟩) n c) n (cy (y.fst n)) ∧ Below w.heap.size w w' := by
  obtain ⟨q0, qi, qz0, qz1, qz2⟩ := info_parts info_i64
  have qmk : ∀ W : World, (Instr.makeSlice 26 (.int .i64 (n : Int)) (.int .i64 (n : Int))).run Tryz.prog W = .ok (.slice (some ⟨W.heap.size, 0, none⟩) n n) (W.alloc (.cells (madeCells (Value.cells (.int .i64 0)) (n * 1)) 2)) := fun W => by
    have := run_make (P := Tryz.prog) W 26 2 q0 _ Tryz.underlying26 qi qz0 .i64 .i64 n n (by omega) (Int.le_refl _) (by rw [qz2]; omega) (by omega)
    rw [qz1] at this
    simpa using this
  clear qi qz0 qz1 qz2
  have QMK := Lib.hid qmk
  obtain ⟨pw, cw, rfl⟩ : ∃ p c, vw = .slice p n c := by
    obtain ⟨_, p, c, e, _⟩ := hw
    exact ⟨p, c, by rw [e, fst_len x h4]⟩
  have HW := Lib.hid hw
  have HC := Lib.hid hc
  have HX := Lib.hid hx
  have HS := Lib.hid hs
  have HN := Lib.hid hn
  have HY := Lib.hid hy
  clear hw hc hx hs hn hy qmk
  go_enter Tryz.func66, Tryz.ntmps66
  go_wp2_with (fail)
  go_loopw [0, 5] (fun u i wr => ∃ (t : Nat) (iv : Int) (p : Option Addr) (c : Nat), i = .int .i64 iv ∧ iv = (t : Int) - 1 ∧ t ≤ n + 1 ∧ u = .slice p n c ∧ Hid (t = 0 → p = pw ∧ c = cw) ∧ Hid (1 ≤ t → lenV (redV (fs.map V4.l) x.l) < 4096) ∧ Hid (∀ j, j + 1 < t → lenV (redV (fs.map V4.l) (axV j)) < 16384) ∧ Below w.heap.size w wr) (fun _ i _ => ((n : Int) - intOf i).toNat)
  case atStart => exact ⟨0, -1, pw, cw, rfl, rfl, by omega, rfl, Lib.hid (fun _ => ⟨rfl, rfl⟩), Lib.hid (fun h => by omega), Lib.hid (fun j h => by omega), Below.refl _ _⟩
  case round =>
    obtain ⟨t, iv, p, c, rfl, hiv, htn, rfl, HP, HR, HRA, hB⟩ := hrel
    by_cases hlt : t ≤ n
    · have itn : iv < (n : Int) := by omega
      cases t with
      | zero =>
        obtain rfl : iv = -1 := by omega
        have itd : decide ((-1 : Int) < (n : Int)) = true := decide_eq_true (by omega)
        clear hiv
        obtain ⟨rfl, rfl⟩ := HP.out rfl
        have hA1 := r4pass _ vc x fs n 0 wr (HW.out.grow hB) (HC.out.grow grows_pt hB) h1 h4 HX.out HS.out (by decide) (by omega) (by omega) (by have := HN.out; omega)
        have HA1 := Lib.hid hA1
        clear hA1
        go_wp2_with (fail)
        refine HA1.out.mono ?_
        rintro e wB ⟨gB, cB, rfl, hoB, hBB⟩
        have hBwB := below_then hB hBB
        have hnB := fold_norm fs x 0 (fun q hq => (HS.out q hq).1) (by decide) (by omega) (by have := HN.out; omega)
        have hsB := sup_pass fs x HX.out fun q hq => (HS.out q hq).2
        have hA2 := r4pass _ vc (pass4 fs x) fs n (0 + fs.length) wB (pt_of hoB (fst_len _ h4) (by omega)) (HC.out.grow grows_pt hBwB) h1 h4 hsB HS.out (by omega) (by omega) (by omega) hnB
        have HA2 := Lib.hid hA2
        clear hA2 hoB HA1
        go_wp2_with (fail)
        refine HA2.out.mono ?_
        rintro e wC ⟨gC, cC, rfl, hoC, hBC⟩
        have hBwC := below_then hBwB hBC
        have hnC := fold_norm fs (pass4 fs x) _ (fun q hq => (HS.out q hq).1) (by omega) (by omega) hnB
        have hsC := sup_pass fs _ hsB fun q hq => (HS.out q hq).2
        have hA3 := r4pass _ vc (pass4 fs (pass4 fs x)) fs n (0 + fs.length + fs.length) wC (pt_of hoC (fst_len _ h4) (by omega)) (HC.out.grow grows_pt hBwC) h1 h4 hsC HS.out (by omega) (by omega) (by omega) hnC
        have HA3 := Lib.hid hA3
        clear hA3 hoC HA2
        go_wp2_with (fail)
        refine HA3.out.mono ?_
        rintro e wD ⟨g, cg, rfl, hoD, hBD⟩
        have hBwD := below_then hBwC hBD
        have hszC := hBwC.size
        have hoD2 := own_monoJ (B := w.heap.size) hoD hszC
        obtain ⟨r, hr⟩ : ∃ r, red4 fs x = r := ⟨_, rfl⟩
        have hrr : pass4 fs (pass4 fs (pass4 fs x)) = r := hr
        rw [hrr] at hoD2
        have hrn : r.dot r ≤ 33554532 * 33554532 := by rw [← hr]; exact red_norm (fun q hq => (HS.out q hq).1) (by omega) HN.out
        have hrb := fst_lim (A := 33554532) (by decide) hrn n
        have hlen := len_cand (w := x) h1 h4 (by omega) HS.out HN.out HX.out
        rw [hr] at hlen
        have hscl := cand_scl (w := x) (fs := fs) (by omega) (fun q hq => (HS.out q hq).1) HN.out
        rw [hr] at hscl
        obtain ⟨L, hL⟩ : ∃ L, lenV (redV (fs.map V4.l) x.l) = L := ⟨_, rfl⟩
        have hl0 := len_l hrn
        have hLb : L ≤ 33554532 := by
          have e : L = lenV r.l := by rw [← hL, red_l, hr]
          rw [e, len_isq hrn]
          have := isq_lt (q := 33554533) r.self_nn (by omega) (by decide)
          omega
        rw [hL] at hlen hscl
        have hA4 := r4length _ (r.fst n) wD (pt_of hoD2 (fst_len _ h4) (by omega)) (by rw [fst_len _ h4]; omega) (fun a ha => by have := hrb a ha; omega)
        rw [hlen] at hA4
        have HA4 := Lib.hid hA4
        have HOD := Lib.hid hoD2
        have HRB := Lib.hid hrb
        have HL := Lib.hid hL
        have HSC := Lib.hid hscl
        clear hA4 hoD hoD2 HA3 hr hrr hlen hrb hrn hL hscl hl0 hnB hnC hsB hsC
        go_wp2_with (fail)
        refine HA4.out.mono ?_
        rintro e wE ⟨rfl, hBE⟩
        have hBwE := below_then hBwD hBE
        have hgD := (HOD.out.lt g rfl)
        have HOE := Lib.hid (HOD.out.kept (grown_below hBE) (.inr (by simp [Value.ownBlock])))
        clear HA4
        by_cases hd : L < 4096
        · have HRJ : Hid (1 ≤ 1 → lenV (redV (fs.map V4.l) x.l) < 4096) := Lib.hid (fun _ => by rw [HL.out]; exact hd)
          go_wp2_with (fail)
          go_roundw
          case rel => exact ⟨1, 0, _, _, rfl, rfl, by omega, rfl, Lib.hid (fun h => by omega), HRJ, Lib.hid (fun j h => by omega), hBwE⟩
          case measure => simp [intOf] <;> omega
        · have hd' : 4096 ≤ L := by omega
          have hyz : y.fst n = (r.fst n).map fun a => dn (a * 65536) L := by
            rw [← scl_fst]
            refine fst_of ?_
            rw [← HSC.out, ← HY.out]
            unfold dirV
            rw [HL.out, if_pos hd']
          obtain ⟨z, hz⟩ : ∃ z, y.fst n = z := ⟨_, rfl⟩
          rw [hz] at hyz
          have hzl : z.length = n := by rw [← hz]; exact fst_len _ h4
          have hz0 : Hid (wE.ownsRow w.heap.size 2 1 (.slice (some ⟨g, 0, none⟩) n cg) n (cy (z.take 0 ++ (r.fst n).drop 0))) := Lib.hid (by simpa using HOE.out)
          have hrl : (r.fst n).length = n := fst_len _ h4
          have HYZ := Lib.hid hyz
          have HZ := Lib.hid hz
          have HZL := Lib.hid hzl
          have HRL := Lib.hid hrl
          have hLn : ¬ L = 0 := by omega
          clear hyz hz hzl hrl
          go_wp2_with (fail)
          go_loopw [9] (fun k wr => ∃ s : Nat, k = .int .i64 s ∧ s ≤ n ∧ Hid (wr.ownsRow w.heap.size 2 1 (.slice (some ⟨g, 0, none⟩) n cg) n (cy (z.take s ++ (r.fst n).drop s))) ∧ Below w.heap.size w wr) (fun k _ => n - (intOf k).toNat)
          case atStart => exact ⟨0, rfl, Nat.zero_le _, hz0, hBwE⟩
          case round =>
            clear hz0
            obtain ⟨s, rfl, hsn, HO, hBs⟩ := hrel
            by_cases hsl : s < n
            · have isn : (s : Int) < n := by omega
              obtain ⟨a, ha⟩ := fst_at (x := r) h4 hsl
              have hab := HRB.out a (List.mem_of_getElem? ha)
              have hmix : (z.take s ++ (r.fst n).drop s)[s]? = some a := by rw [td_at (by rw [HZL.out, HRL.out]) (by rw [HZL.out]; exact hsn), ha]
              have q0 := HO.out.cellAt s (by omega)
              rw [cy_at hmix] at q0
              have z0 := HO.out.frozenAt s
              have hcd := fun w => down_any (a * 65536) L w (by omega) (by omega) hLn
              obtain ⟨e, he⟩ : ∃ e, dn (a * 65536) L = e := ⟨_, rfl⟩
              rw [he] at hcd
              have hzs : z[s]? = some e := by rw [HYZ.out, List.getElem?_map, ha, Option.map_some, he]
              have hset : (z.take s ++ (r.fst n).drop s).set s e = z.take (s + 1) ++ (r.fst n).drop (s + 1) := td_set hzs (by rw [HZL.out, HRL.out])
              have HC1 := Lib.hid hcd
              have hgb := HO.out.lt g rfl
              have hst := (HO.out.stored s (.int .i64 e)).1
              rw [← cy_put, hset] at hst
              have HOS := Lib.hid hst
              have hBs2 : Below w.heap.size w (wr.setCell ⟨g, s, none⟩ (.int .i64 e)) := hBs.setCell (p := ⟨g, s, none⟩) hgb.1 _
              have Wa := wrap_ok (a * 65536) (by omega) (by omega)
              clear ha hmix he hzs hset hst hcd
              go_wp2_with (fail)
              refine (HC1.out _).mono ?_
              rintro e2 w9 ⟨rfl, rfl⟩
              go_wp2_with (fail)
              go_roundw
              case rel => exact ⟨s + 1, by go_num, by omega, HOS, hBs2⟩
              case measure => simp [intOf]; omega
            · obtain rfl : s = n := by omega
              have ho := HO.out
              rw [List.take_of_length_le (by rw [HZL.out]; exact Nat.le_refl _), List.drop_of_length_le (by rw [HRL.out]; exact Nat.le_refl _), List.append_nil, ← HZ.out] at ho
              have HF := Lib.hid ho
              clear ho
              go_wp2_with (fail)
              go_ret
              exact ⟨g, cg, rfl, HF.out, hBs⟩
      | succ j =>
        obtain rfl : iv = (j : Int) := by omega
        clear hiv itn
        have ij : (j : Int) < n := by omega
        have ij0 : decide ((0 : Int) ≤ (j : Int)) = true := decide_eq_true (by omega)
        have hjn : j < n := by omega
        have qm := QMK.out wr
        obtain ⟨w2, hw2⟩ : ∃ w2, wr.alloc (.cells (madeCells (Value.cells (.int .i64 0)) (n * 1)) 2) = w2 := ⟨_, rfl⟩
        rw [hw2] at qm
        have hb2 : Below wr.heap.size wr w2 := by rw [← hw2]; exact (Below.refl _ _).alloc (Nat.le_refl _) _
        have hin : w2.ownsRow wr.heap.size 2 1 (.slice (some ⟨wr.heap.size, 0, none⟩) n n) n (cy (List.replicate n (0 : Int))) := by
          rw [← hw2, ← made_cy]
          exact World.ownsRow_lit wr _ n (Nat.le_refl _) (by unfold maxLen; omega) (size_madeCells _ _)
        have z0 := hin.cellAt j (by omega)
        rw [cy_at (show (List.replicate n (0 : Int))[j]? = some 0 by rw [List.getElem?_replicate, if_pos hjn])] at z0
        have z1 := hin.frozenAt j
        have hst := (hin.stored j (.int .i64 65536)).1
        rw [← cy_put, ax_fst h4 hjn] at hst
        have hBs : Below wr.heap.size wr (w2.setCell ⟨wr.heap.size, j, none⟩ (.int .i64 65536)) := hb2.setCell (p := ⟨wr.heap.size, j, none⟩) (Nat.le_refl _) _
        have hBz := below_then hB hBs
        have HPT := Lib.hid (pt_of hst (fst_len _ h4) (by omega))
        have HPA := Lib.hid (Nat.le_refl 0)
        clear hw2 hin hst
        go_wp2_with (fail)
        clear qm z0 z1
        obtain ⟨wA, hwA⟩ : ∃ W, w2.setCell ⟨wr.heap.size, j, none⟩ (.int .i64 65536) = W := ⟨_, rfl⟩
        rw [hwA] at hBz HPT
        rw [hwA]
        have hA1 := r4pass _ vc (V4.ax j) fs n 0 wA HPT.out (HC.out.grow grows_pt hBz) h1 h4 (sup_ax hjn) HS.out (by decide) (by omega) (by omega) (by have := (ax_sq j); omega)
        have HA1 := Lib.hid hA1
        clear hA1
        skip
        refine HA1.out.mono ?_
        rintro e wB ⟨gB, cB, rfl, hoB, hBB⟩
        have hBwB := below_then hBz hBB
        have hnB := fold_norm fs (V4.ax j) 0 (fun q hq => (HS.out q hq).1) (by decide) (by omega) (by have := (ax_sq j); omega)
        have hsB := sup_pass fs (V4.ax j) (sup_ax hjn) fun q hq => (HS.out q hq).2
        have hA2 := r4pass _ vc (pass4 fs (V4.ax j)) fs n (0 + fs.length) wB (pt_of hoB (fst_len _ h4) (by omega)) (HC.out.grow grows_pt hBwB) h1 h4 hsB HS.out (by omega) (by omega) (by omega) hnB
        have HA2 := Lib.hid hA2
        clear hA2 hoB HA1
        go_wp2_with (fail)
        refine HA2.out.mono ?_
        rintro e wC ⟨gC, cC, rfl, hoC, hBC⟩
        have hBwC := below_then hBwB hBC
        have hnC := fold_norm fs (pass4 fs (V4.ax j)) _ (fun q hq => (HS.out q hq).1) (by omega) (by omega) hnB
        have hsC := sup_pass fs _ hsB fun q hq => (HS.out q hq).2
        have hA3 := r4pass _ vc (pass4 fs (pass4 fs (V4.ax j))) fs n (0 + fs.length + fs.length) wC (pt_of hoC (fst_len _ h4) (by omega)) (HC.out.grow grows_pt hBwC) h1 h4 hsC HS.out (by omega) (by omega) (by omega) hnC
        have HA3 := Lib.hid hA3
        clear hA3 hoC HA2
        go_wp2_with (fail)
        refine HA3.out.mono ?_
        rintro e wD ⟨g, cg, rfl, hoD, hBD⟩
        have hBwD := below_then hBwC hBD
        have hszC := hBwC.size
        have hoD2 := own_monoJ (B := w.heap.size) hoD hszC
        obtain ⟨r, hr⟩ : ∃ r, red4 fs (V4.ax j) = r := ⟨_, rfl⟩
        have hrr : pass4 fs (pass4 fs (pass4 fs (V4.ax j))) = r := hr
        rw [hrr] at hoD2
        have hrn : r.dot r ≤ 33554532 * 33554532 := by rw [← hr]; exact red_norm (fun q hq => (HS.out q hq).1) (by omega) (ax_sq j)
        have hrb := fst_lim (A := 33554532) (by decide) hrn n
        have hlen := len_cand (w := (V4.ax j)) h1 h4 (by omega) HS.out (ax_sq j) (sup_ax hjn)
        rw [hr] at hlen
        have hscl := cand_scl (w := (V4.ax j)) (fs := fs) (by omega) (fun q hq => (HS.out q hq).1) (ax_sq j)
        rw [hr] at hscl
        obtain ⟨L, hL⟩ : ∃ L, lenV (redV (fs.map V4.l) (V4.ax j).l) = L := ⟨_, rfl⟩
        have hl0 := len_l hrn
        have hLb : L ≤ 33554532 := by
          have e : L = lenV r.l := by rw [← hL, red_l, hr]
          rw [e, len_isq hrn]
          have := isq_lt (q := 33554533) r.self_nn (by omega) (by decide)
          omega
        rw [hL] at hlen hscl
        have hA4 := r4length _ (r.fst n) wD (pt_of hoD2 (fst_len _ h4) (by omega)) (by rw [fst_len _ h4]; omega) (fun a ha => by have := hrb a ha; omega)
        rw [hlen] at hA4
        have HA4 := Lib.hid hA4
        have HOD := Lib.hid hoD2
        have HRB := Lib.hid hrb
        have HL := Lib.hid hL
        have HSC := Lib.hid hscl
        clear hA4 hoD hoD2 HA3 hr hrr hlen hrb hrn hL hscl hl0 hnB hnC hsB hsC
        go_wp2_with (fail)
        refine HA4.out.mono ?_
        rintro e wE ⟨rfl, hBE⟩
        have hBwE := below_then hBwD hBE
        have hgD := (HOD.out.lt g rfl)
        have HOE := Lib.hid (HOD.out.kept (grown_below hBE) (.inr (by simp [Value.ownBlock])))
        clear HA4
        by_cases hd : L < 16384
        · have HRJ : Hid (∀ i, i + 1 < j + 2 → lenV (redV (fs.map V4.l) (axV i)) < 16384) := Lib.hid (fun i hi => by
            by_cases e : i < j
            · exact HRA.out i (by omega)
            · obtain rfl : i = j := by omega
              rw [ax_l (by omega), HL.out]
              exact hd)
          go_wp2_with (fail)
          go_roundw
          case rel => exact ⟨j + 2, (j : Int) + 1, _, _, by go_num, by omega, by omega, rfl, Lib.hid (fun h => by omega), Lib.hid (fun _ => HR.out (by omega)), HRJ, hBwE⟩
          case measure => simp [intOf] <;> omega
        · have hd' : 16384 ≤ L := by omega
          have hyz : y.fst n = (r.fst n).map fun a => dn (a * 65536) L := by
            rw [← scl_fst]
            refine fst_of ?_
            rw [← HSC.out, ← HY.out]
            unfold dirV
            rw [if_neg (by have := HR.out (by omega); omega), axDir_first hjn (fun i hi => HRA.out i (by omega)) (by rw [ax_l (by omega), HL.out]; exact hd'), ax_l (by omega)]
          obtain ⟨z, hz⟩ : ∃ z, y.fst n = z := ⟨_, rfl⟩
          rw [hz] at hyz
          have hzl : z.length = n := by rw [← hz]; exact fst_len _ h4
          have hz0 : Hid (wE.ownsRow w.heap.size 2 1 (.slice (some ⟨g, 0, none⟩) n cg) n (cy (z.take 0 ++ (r.fst n).drop 0))) := Lib.hid (by simpa using HOE.out)
          have hrl : (r.fst n).length = n := fst_len _ h4
          have HYZ := Lib.hid hyz
          have HZ := Lib.hid hz
          have HZL := Lib.hid hzl
          have HRL := Lib.hid hrl
          have hLn : ¬ L = 0 := by omega
          clear hyz hz hzl hrl
          go_wp2_with (fail)
          go_loopw [9] (fun k wr => ∃ s : Nat, k = .int .i64 s ∧ s ≤ n ∧ Hid (wr.ownsRow w.heap.size 2 1 (.slice (some ⟨g, 0, none⟩) n cg) n (cy (z.take s ++ (r.fst n).drop s))) ∧ Below w.heap.size w wr) (fun k _ => n - (intOf k).toNat)
          case atStart => exact ⟨0, rfl, Nat.zero_le _, hz0, hBwE⟩
          case round =>
            clear hz0
            obtain ⟨s, rfl, hsn, HO, hBs⟩ := hrel
            by_cases hsl : s < n
            · have isn : (s : Int) < n := by omega
              obtain ⟨a, ha⟩ := fst_at (x := r) h4 hsl
              have hab := HRB.out a (List.mem_of_getElem? ha)
              have hmix : (z.take s ++ (r.fst n).drop s)[s]? = some a := by rw [td_at (by rw [HZL.out, HRL.out]) (by rw [HZL.out]; exact hsn), ha]
              have q0 := HO.out.cellAt s (by omega)
              rw [cy_at hmix] at q0
              have z0 := HO.out.frozenAt s
              have hcd := fun w => down_any (a * 65536) L w (by omega) (by omega) hLn
              obtain ⟨e, he⟩ : ∃ e, dn (a * 65536) L = e := ⟨_, rfl⟩
              rw [he] at hcd
              have hzs : z[s]? = some e := by rw [HYZ.out, List.getElem?_map, ha, Option.map_some, he]
              have hset : (z.take s ++ (r.fst n).drop s).set s e = z.take (s + 1) ++ (r.fst n).drop (s + 1) := td_set hzs (by rw [HZL.out, HRL.out])
              have HC1 := Lib.hid hcd
              have hgb := HO.out.lt g rfl
              have hst := (HO.out.stored s (.int .i64 e)).1
              rw [← cy_put, hset] at hst
              have HOS := Lib.hid hst
              have hBs2 : Below w.heap.size w (wr.setCell ⟨g, s, none⟩ (.int .i64 e)) := hBs.setCell (p := ⟨g, s, none⟩) hgb.1 _
              have Wa := wrap_ok (a * 65536) (by omega) (by omega)
              clear ha hmix he hzs hset hst hcd
              go_wp2_with (fail)
              refine (HC1.out _).mono ?_
              rintro e2 w9 ⟨rfl, rfl⟩
              go_wp2_with (fail)
              go_roundw
              case rel => exact ⟨s + 1, by go_num, by omega, HOS, hBs2⟩
              case measure => simp [intOf]; omega
            · obtain rfl : s = n := by omega
              have ho := HO.out
              rw [List.take_of_length_le (by rw [HZL.out]; exact Nat.le_refl _), List.drop_of_length_le (by rw [HRL.out]; exact Nat.le_refl _), List.append_nil, ← HZ.out] at ho
              have HF := Lib.hid ho
              clear ho
              go_wp2_with (fail)
              go_ret
              exact ⟨g, cg, rfl, HF.out, hBs⟩
    · have ht : t = n + 1 := by omega
      obtain ⟨j, hj, hb⟩ := axis_left n h4 fs hl
      exfalso
      have hr := HRA.out j (by omega)
      rw [ax_l (by omega), red_l] at hr
      have hq := len_l (red_norm (fs := fs) (fun q hq => (HS.out q hq).1) (by omega) (ax_sq j))
      generalize lenV (red4 fs (V4.ax j)).l = L at *
      have := Int.mul_le_mul (show L + 1 ≤ 16384 by omega) (show L + 1 ≤ 16384 by omega) (by omega) (by decide)
      omega
end Go.Proofs.YtmcdkbnpcmiojaaGreat

namespace Go.Proofs.YtmcdkbnpcmiojaaGreat
open Go.ChangeShapes Go.WideShapes Go.ChangeAt Go.RowKit
set_option linter.unusedVariables false
set_option linter.unusedSimpArgs false
set_option maxRecDepth 100000

attribute [local irreducible] Calls
set_option maxHeartbeats 2000000 in
theorem r4column_o (v : Value) (P : List (List Int)) (j : Nat) (w : World) (hv : Nx w v P) (hl : P.length ≤ 100) (hr : ∀ r ∈ P, j < r.length) :
    Calls Tryz.prog 67 #[v, .int .i64 (j : Int)] w fun e w' => ∃ g c, e = .returned (.slice (some ⟨g, 0, none⟩) P.length c) ∧ w'.ownsRow w.heap.size 2 1 (.slice (some ⟨g, 0, none⟩) P.length c) P.length (cy (colL P j)) ∧ Below w.heap.size w w' := by
  obtain ⟨i0, hi, hz0, hz1, hz2⟩ := info_parts info_i64
  obtain ⟨p, c, rfl⟩ := hv.cut
  have HV := Lib.hid hv
  have HR := Lib.hid hr
  clear hv hr
  go_enter Tryz.func67, Tryz.ntmps67
  go_wp2_with (fail)
  go_loopw [5, 6] (fun u i wr => ∃ k : Nat, i = .int .i64 k ∧ k ≤ P.length ∧ OwnJ w.heap.size wr u (colL (P.take k) j) ∧ Below w.heap.size w wr) (fun _ i _ => P.length - (intOf i).toNat)
  case atStart => exact ⟨0, rfl, Nat.zero_le _, ⟨w.heap.size, 0, rfl, by simpa [cy, colL] using World.ownsRow_made (e := 2) (size := 1) w #[] 0 (Nat.le_refl _) (by decide) rfl⟩, (Below.refl _ _).alloc (Nat.le_refl _) _⟩
  case round =>
    obtain ⟨k, rfl, hk, ⟨g, cap, rfl, hown⟩, hB⟩ := hrel
    have hml : (colL (P.take k) j).length = k := by simp [colL]; omega
    by_cases hlt : k < P.length
    · have ik : (k : Int) < P.length := by omega
      obtain ⟨r, hrk⟩ : ∃ r, P[k]? = some r := ⟨_, List.getElem?_eq_getElem hlt⟩
      have hjr := HR.out r (List.mem_of_getElem? hrk)
      have ij : (j : Int) < r.length := by omega
      obtain ⟨x, hx⟩ : ∃ x, r[j]? = some x := ⟨_, List.getElem?_eq_getElem hjr⟩
      obtain ⟨b, o, b2, o2, c2, rfl, f1, f2⟩ := nx_open HV.out hrk (by omega)
      have h1 := f1 ⟨wr, hB⟩
      have h2 := f2 ⟨wr, hB⟩ j x hx
      dsimp only at h1 h2
      have HN := Lib.hid (col_next hrk hx)
      have hsz := hB.size
      have hgw := (hown.lt g rfl).2
      clear f1 f2 hrk hx
      rw [hml] at hown
      rw [hml]
      generalize colL (P.take k) j = L at *
      have HML := Lib.hid hml
      clear hml
      go_wp2_with (at_builtin; refine wpList_append_own _ rfl (.tmp 14) (.tmp 22) 26 rfl w.heap.size 2 i0 (.int .i64 0) 1 8 Tryz.underlying26 hi hz0 hz1 hz2 rfl (by decide) (.slice (some ⟨g, 0, none⟩) k cap) k _ rfl (hown.alloc _) ⟨wr.heap.size, 0, none⟩ 1 1 [.int .i64 x] rfl rfl (new_one _ _ _) (one_i64 x) (by unfold maxLen; omega) (by omega) (by first | omega | (simp; omega)) ?_)
      have hB8 := hB.alloc hsz (.cells #[.int .i64 x] 2)
      intro v' w6 hown' hgrow _
      obtain ⟨g', cap', rfl⟩ := ownsRow_succ hown'
      have hB9 : Below w.heap.size w w6 := Below.grown hB8 hgrow (by first | omega | (simp; omega)) (fun q hq => (hown.lt q hq).1)
      rw [← cy_snoc] at hown'
      have HO := Lib.hid hown'
      clear hown' hgrow hown
      go_wp2_with (fail)
      go_roundw
      case rel => exact ⟨k + 1, by go_num, by omega, ⟨g', cap', by rw [HN.out, List.length_append, HML.out]; rfl, by rw [HN.out, List.length_append, HML.out]; exact HO.out⟩, hB9⟩
      case measure => simp [intOf]; omega
    · obtain rfl : k = P.length := by omega
      rw [List.take_length] at hown hml ⊢
      rw [hml] at hown ⊢
      have HO := Lib.hid hown
      clear hown hml
      go_wp2_with (fail)
      go_ret
      exact ⟨g, cap, rfl, HO.out, hB⟩
theorem OwnN.keptBy {B B' k0 n c : Nat} {w w' : World} {v : Value} {us xs : List Value} {P : List (List Int)} (h : OwnN B w v us P) (ho : w.ownsRow B' 26 1 (.slice (some ⟨k0, 0, none⟩) n c) n xs) (hv : v.ownBlock ≠ some k0) (hg : w.grownBy w' (some k0)) : OwnN B w' v us P :=
  ⟨h.out.kept hg (.inr hv), fun i r hr => by
    obtain ⟨R, c', h1, h2⟩ := h.row i r hr
    refine ⟨R, c', h1, h2.kept hg (.inr fun q => ?_)⟩
    simp only [Value.ownBlock, Option.some.injEq] at q
    subst q
    exact absurd (own_type ho h2) (by decide)⟩
theorem colL_fst {M : List (List Int)} {n : Nat} (hM : M.length = n) (h4 : n ≤ 4) (k : Nat) : colL M k = (colV4 M k).fst n := by
  unfold V4.fst
  rw [← col_l (by omega) k]
  apply List.ext_getElem?
  intro i
  unfold colL colV
  rw [List.getElem?_map, List.getElem?_take]
  by_cases hi : i < n
  · obtain ⟨r, hr⟩ : ∃ r, M[i]? = some r := ⟨_, List.getElem?_eq_getElem (by omega)⟩
    rw [if_pos hi, List.getElem?_map, List.getElem?_range (by omega), Option.map_some, hr, Option.map_some]
    unfold colE
    rw [hr, Option.bind_some]
  · rw [if_neg hi, List.getElem?_eq_none (by omega)]
    rfl
theorem row_orth {M : List (List Int)} {n d : Nat} {fs : List V4} (h4 : n ≤ 4) (hf : fs.length = n) (he : frameV M n n = fs.map V4.l) (hd : d < n) : colL (fs.map fun q => q.fst n) d = rowOf (orthF M n) n d := by
  apply List.ext_getElem?
  intro j
  unfold colL rowOf
  rw [List.map_map, List.getElem?_map, List.getElem?_map]
  by_cases hj : j < n
  · obtain ⟨q, hq⟩ : ∃ q, fs[j]? = some q := ⟨_, List.getElem?_eq_getElem (by omega)⟩
    rw [hq, Option.map_some, List.getElem?_range hj, Option.map_some]
    congr 1
    unfold orthF
    rw [he, List.getElem?_map, hq, Option.map_some, Option.bind_some]
    show ((q.fst n)[d]?).getD 0 = _
    unfold V4.fst
    rw [List.getElem?_take, if_pos hd]
  · rw [List.getElem?_eq_none (by omega), List.getElem?_eq_none (by simpa using Nat.le_of_not_lt hj)]
    rfl
theorem nxN {B : Nat} {w : World} {v : Value} {us : List Value} {fs : List V4} {n : Nat} (h4 : n ≤ 4) (hf : fs.length ≤ n) (h : OwnN B w v us (fs.map fun q => q.fst n)) : Nx w v (fs.map fun q => q.fst n) := h.nx (by rw [List.length_map]; unfold maxLen; omega) fun r hr => by
  rw [List.mem_map] at hr
  obtain ⟨q, _, rfl⟩ := hr
  rw [fst_len q h4]
  unfold maxLen
  omega
set_option maxHeartbeats 32000000 in
theorem r4orth (v : Value) (M : List (List Int)) (n : Nat) (w : World) (hv : Nx w v M) (hM : M.length = n) (h1 : 1 ≤ n) (h4 : n ≤ 4) (hr : ∀ r ∈ M, r.length = n) (hb : ∀ r ∈ M, ∀ x ∈ r, -16777216 ≤ x ∧ x ≤ 16777216) :
    Calls Tryz.prog 25 #[v] w fun e w' => ∃ u, e = .returned u ∧ Nx w' u (matOf (orthF M n) n) ∧ Below w.heap.size w w' := by
  obtain ⟨p0, pi, pz0, pz1, pz2⟩ := info_parts info_nrow
  obtain ⟨pv, cv, rfl⟩ := hv.shape hM
  have HV := Lib.hid hv
  have HM := Lib.hid hM
  have HR := Lib.hid hr
  have HB := Lib.hid hb
  obtain ⟨T, hT⟩ : ∃ T, matOf (orthF M n) n = T := ⟨_, rfl⟩
  have hTl : T.length = n := by rw [← hT]; simp [matOf]
  have hTat : ∀ d, d < n → T[d]? = some (rowOf (orthF M n) n d) := fun d hd => by rw [← hT]; unfold matOf; rw [List.getElem?_map, List.getElem?_range hd]; rfl
  have hTr : ∀ r ∈ T, r.length = n := fun r h => by
    rw [← hT] at h
    unfold matOf at h
    rw [List.mem_map] at h
    obtain ⟨i, _, rfl⟩ := h
    simp [rowOf]
  rw [hT]
  have HTL := Lib.hid hTl
  have HTA := Lib.hid hTat
  have HTR := Lib.hid hTr
  clear hv hM hr hb hT hTl hTat hTr
  go_enter Tryz.func25, Tryz.ntmps25
  go_wp2_with (fail)
  have hO0 : OwnN w.heap.size ((w.alloc (.cells #[] 26)).alloc (.cells #[] 26)) (.slice (some ⟨w.heap.size, 0, none⟩) 0 0) [] [] := by
    have hb : Below (w.alloc (.cells #[] 26)).heap.size (w.alloc (.cells #[] 26)) ((w.alloc (.cells #[] 26)).alloc (.cells #[] 26)) := (Below.refl _ _).alloc (Nat.le_refl _) _
    have ho : OwnN w.heap.size (w.alloc (.cells #[] 26)) (.slice (some ⟨w.heap.size, 0, none⟩) 0 0) [] [] := ⟨by simpa using World.ownsRow_made (e := 26) (size := 1) w #[] 0 (Nat.le_refl _) (by decide) rfl, fun i r h => by simp at h⟩
    exact ho.kept hb
  have hT0 : OwnN w.heap.size ((w.alloc (.cells #[] 26)).alloc (.cells #[] 26)) (.slice (some ⟨w.heap.size + 1, 0, none⟩) 0 0) [] [] := ⟨by simpa using World.ownsRow_made (e := 26) (size := 1) (w.alloc (.cells #[] 26)) #[] 0 (base := w.heap.size) (by simp) (by decide) rfl, fun i r h => by simp at h⟩
  have hB0 : Below w.heap.size w ((w.alloc (.cells #[] 26)).alloc (.cells #[] 26)) := ((Below.refl _ _).alloc (Nat.le_refl _) _).alloc (by simp) _
  have hs1 : w.heap.size + 2 ≤ ((w.alloc (.cells #[] 26)).alloc (.cells #[] 26)).heap.size := by simp
  obtain ⟨W1, hW1⟩ : ∃ W, (w.alloc (.cells #[] 26)).alloc (.cells #[] 26) = W := ⟨_, rfl⟩
  rw [hW1] at hO0 hT0 hB0 hs1
  rw [hW1]
  have HO0 := Lib.hid hO0
  have HT0 := Lib.hid hT0
  clear hO0 hT0 hW1
  go_loopw [3, 5] (fun u i wr => ∃ (fs : List V4) (us : List Value) (g cap : Nat), i = .int .i64 fs.length ∧ fs.length ≤ n ∧ u = .slice (some ⟨g, 0, none⟩) fs.length cap ∧ Hid (frameV M n fs.length = fs.map V4.l ∧ Good n fs) ∧ Hid (OwnN w.heap.size wr u us (fs.map fun q => q.fst n)) ∧ (g = w.heap.size ∨ W1.heap.size ≤ g) ∧ Hid (W1.grownBy wr (some w.heap.size)) ∧ Below w.heap.size w wr) (fun _ i _ => n - (intOf i).toNat)
  case atStart => exact ⟨[], [], w.heap.size, 0, rfl, Nat.zero_le _, rfl, Lib.hid ⟨rfl, nofun, fun i j p q _ hp => by simp at hp⟩, HO0, .inl rfl, Lib.hid ⟨rfl, rfl, rfl, Nat.le_refl _, fun _ _ _ => rfl⟩, hB0⟩
  case round =>
    clear HO0 hB0
    obtain ⟨fs, us, g, cap, rfl, hPn, rfl, HFG, HO, hgg, HG, hBw⟩ := hrel
    by_cases hlt : fs.length < n
    · have ik : (fs.length : Int) < n := by omega
      obtain ⟨hfe, hfg⟩ := HFG.out
      obtain ⟨y, hy, hgy⟩ := dir_good h4 hfg hlt (col_sq HB.out fs.length) (col_sup HM.out fs.length)
      have hfe2 : frameV M n (fs.length + 1) = (fs ++ [y]).map V4.l := by
        rw [frameV, hfe, col_l (by rw [HM.out]; exact h4) fs.length, hy, List.map_append]
        rfl
      have HFE2 := Lib.hid hfe2
      have HGY := Lib.hid hgy
      have HC1 := Lib.hid (r4column (.slice pv n cv) M fs.length wr (HV.out.grow grows_pt hBw) (by rw [HM.out]; omega) (fun r hr => by rw [HR.out r hr]; exact hlt))
      rw [colL_fst HM.out h4] at HC1
      have HC2 : Hid (∀ (vq : Value) (W : World), Below wr.heap.size wr W → Pt W vq ((colV4 M fs.length).fst n) → Calls Tryz.prog 66 #[vq, .slice (some ⟨g, 0, none⟩) fs.length cap] W fun e w' => ∃ g c, e = .returned (.slice (some ⟨g, 0, none⟩) n c) ∧ w'.ownsRow W.heap.size 2 1 (.slice (some ⟨g, 0, none⟩) n c) n (cy (y.fst n)) ∧ Below W.heap.size W w') := Lib.hid (fun vq W hB hp =>
        r4next vq _ (colV4 M fs.length) fs n W hp (nxN h4 hPn (HO.out.kept hB)) h1 h4 (col_sup HM.out _) (fun q hq => hfg.1 q hq) hlt (col_sq HB.out _) y hy)
      have hszw := hBw.size
      clear hfe hfg hy hgy hfe2
      go_wp2_with (fail)
      refine HC1.out.mono ?_
      rintro e wA ⟨vq, rfl, hq, hBA⟩
      have HQ := Lib.hid (HC2.out vq wA hBA hq)
      clear hq HC1 HC2
      go_wp2_with (fail)
      refine HQ.out.mono ?_
      rintro e w5 ⟨g1, c1, rfl, hown, hB5⟩
      have hBA5 := below_then hBA hB5
      have hB6 := below_then hBw hBA5
      have hsz6 := hB6.size
      have hrowB := own_monoJ (B := w.heap.size) hown (Nat.le_trans hszw hBA.size)
      have hO5 := HO.out.kept hBA5
      have hout5 := hO5.out
      rw [List.length_map] at hout5
      have HO5 := Lib.hid hO5
      have HRB := Lib.hid hrowB
      clear hO5 hrowB hown HQ
      go_wp2_with (at_builtin; refine wpList_append_own_at _ rfl (.tmp 15) (.tmp 21) 31 rfl w.heap.size 26 p0 (.slice none 0 0) 1 24 Tryz.underlying31 pi pz0 pz1 pz2 rfl (by decide) (.slice (some ⟨g, 0, none⟩) fs.length cap) fs.length _ rfl (hout5.alloc _) ⟨w5.heap.size, 0, none⟩ 1 1 [.slice (some ⟨g1, 0, none⟩) n c1] rfl rfl (new_one _ _ _) (one_sl _ _ _) (by unfold maxLen; omega) (by omega) (by first | omega | (simp; omega)) ?_)
      have hBa : Below w5.heap.size w5 (w5.alloc (.cells #[Value.slice (some ⟨g1, 0, none⟩) n c1] 26)) := (Below.refl _ _).alloc (Nat.le_refl _) _
      intro v' w6 hown' hgrow _ hat
      obtain ⟨g', cap', rfl⟩ := ownsRow_succ hown'
      have hP : OwnN w.heap.size w6 (.slice (some ⟨g', 0, none⟩) (fs.length + 1) cap') (us ++ [.slice (some ⟨g1, 0, none⟩) n c1]) ((fs.map fun q => q.fst n) ++ [y.fst n]) := by
        have e := fst_len y h4
        have := OwnN.push (r := y.fst n) (HO5.out.kept hBa) (by rw [e]; exact HRB.out.kept (grown_below hBa) (.inr (by simp [Value.ownBlock]))) (by rw [e, List.length_map]; exact hown') hgrow
        rw [e] at this
        exact this
      have HPP := Lib.hid hP
      have hB9 : Below w.heap.size w w6 := Below.grown (hB6.trans (hBa.mono hsz6)) hgrow (by first | omega | (simp; omega)) (fun q hq => (hout5.lt q hq).1)
      have hg2 : g' = w.heap.size ∨ W1.heap.size ≤ g' := by
        simp only [Value.ownBlock, Option.some.injEq] at hat
        rcases hat with e | e
        · rw [e]; exact hgg
        · right
          rw [e]
          have a1 := HG.out.size
          have a2 := hBA5.size
          have a3 := hBa.size
          omega
      have HG2 := Lib.hid (grow_off HG.out (below_then hBA5 hBa) hgrow hgg)
      clear hP hown' hgrow hout5 hat
      go_wp2_with (fail)
      go_roundw
      case rel => exact ⟨fs ++ [y], _, g', cap', by simp, by simp; omega, by simp, Lib.hid ⟨by rw [List.length_append]; exact HFE2.out, HGY.out⟩, by rw [List.map_append]; exact HPP, hg2, HG2, hB9⟩
      case measure => simp [intOf]; omega
    · have hPl : fs.length = n := by omega
      have hfe := HFG.out.1
      rw [hPl] at hfe
      have HROW : Hid (∀ d, d < n → colL (fs.map fun q => q.fst n) d = rowOf (orthF M n) n d) := Lib.hid (fun d hd => row_orth h4 hPl hfe hd)
      have hT2 : OwnN w.heap.size wr (.slice (some ⟨w.heap.size + 1, 0, none⟩) 0 0) [] [] := ⟨HT0.out.out.kept HG.out (.inr (by simp [Value.ownBlock])), fun i r h => by simp at h⟩
      have HT2 := Lib.hid hT2
      have HCO := HO
      have hgc : g ≠ w.heap.size + 1 := by omega
      obtain ⟨W2, hW2⟩ : ∃ W, W = wr := ⟨_, rfl⟩
      subst hW2
      have hs2 : w.heap.size + 1 < W2.heap.size := by have := HG.out.size; omega
      rw [hPl] at HCO ⊢
      clear hfe hT2 HO HG hgg
      go_wp2_with (fail)
      go_loopw [4, 6] (fun u i wr => ∃ (P : List (List Int)) (us : List Value) (g cap : Nat), i = .int .i64 P.length ∧ P.length ≤ n ∧ u = .slice (some ⟨g, 0, none⟩) P.length cap ∧ Hid (P = T.take P.length) ∧ Hid (OwnN w.heap.size wr u us P) ∧ (g = w.heap.size + 1 ∨ W2.heap.size ≤ g) ∧ Hid (W2.grownBy wr (some (w.heap.size + 1))) ∧ Below w.heap.size w wr) (fun _ i _ => n - (intOf i).toNat)
      case atStart => exact ⟨[], [], w.heap.size + 1, 0, rfl, Nat.zero_le _, rfl, Lib.hid (by simp), HT2, .inl rfl, Lib.hid ⟨rfl, rfl, rfl, Nat.le_refl _, fun _ _ _ => rfl⟩, hBw⟩
      case round =>
        obtain ⟨P, us2, g2, cap2, rfl, hP2, rfl, HS, HO, hgg, HG, hB2⟩ := hrel
        by_cases hlt2 : P.length < n
        · have ik : (P.length : Int) < n := by omega
          have hcol := HCO.out.keptBy HT2.out.out (by simpa [Value.ownBlock] using hgc) HG.out
          have hml : (fs.map fun q => q.fst n).length = n := by rw [List.length_map, hPl]
          have HC1 := Lib.hid (r4column_o (.slice (some ⟨g, 0, none⟩) n cap) (fs.map fun q => q.fst n) P.length wr (nxN h4 (by omega) hcol) (by rw [hml]; omega) (fun r hr => by
            rw [List.mem_map] at hr
            obtain ⟨q, _, rfl⟩ := hr
            rw [fst_len q h4]
            exact hlt2))
          rw [HROW.out _ hlt2, hml] at HC1
          obtain ⟨row, hrow⟩ : ∃ r, rowOf (orthF M n) n P.length = r := ⟨_, rfl⟩
          have hrl : row.length = n := by rw [← hrow]; simp [rowOf]
          have hTa := HTA.out _ hlt2
          rw [hrow] at HC1 hTa
          have HX := Lib.hid hTa
          have HRL := Lib.hid hrl
          have hszw := hB2.size
          clear hcol hml hrow hrl hTa
          go_wp2_with (fail)
          refine HC1.out.mono ?_
          rintro e w5 ⟨g1, c1, rfl, hown, hB5⟩
          have hB6 := below_then hB2 hB5
          have hsz6 := hB6.size
          have hrowB := own_monoJ (B := w.heap.size) hown hszw
          have hO5 := HO.out.kept hB5
          have hout5 := hO5.out
          have HO5 := Lib.hid hO5
          have HRB := Lib.hid hrowB
          clear hO5 hrowB hown HC1
          go_wp2_with (at_builtin; refine wpList_append_own_at _ rfl (.tmp 29) (.tmp 33) 31 rfl w.heap.size 26 p0 (.slice none 0 0) 1 24 Tryz.underlying31 pi pz0 pz1 pz2 rfl (by decide) (.slice (some ⟨g2, 0, none⟩) P.length cap2) P.length _ rfl (hout5.alloc _) ⟨w5.heap.size, 0, none⟩ 1 1 [.slice (some ⟨g1, 0, none⟩) n c1] rfl rfl (new_one _ _ _) (one_sl _ _ _) (by unfold maxLen; omega) (by omega) (by first | omega | (simp; omega)) ?_)
          have hBa : Below w5.heap.size w5 (w5.alloc (.cells #[Value.slice (some ⟨g1, 0, none⟩) n c1] 26)) := (Below.refl _ _).alloc (Nat.le_refl _) _
          intro v' w6 hown' hgrow _ hat
          obtain ⟨g', cap', rfl⟩ := ownsRow_succ hown'
          have hP : OwnN w.heap.size w6 (.slice (some ⟨g', 0, none⟩) (P.length + 1) cap') (us2 ++ [.slice (some ⟨g1, 0, none⟩) n c1]) (P ++ [row]) := by
            have := OwnN.push (r := row) (HO5.out.kept hBa) (by rw [HRL.out]; exact HRB.out.kept (grown_below hBa) (.inr (by simp [Value.ownBlock]))) (by rw [HRL.out]; exact hown') hgrow
            rw [HRL.out] at this
            exact this
          have HPP := Lib.hid hP
          have hB9 : Below w.heap.size w w6 := Below.grown (hB6.trans (hBa.mono hsz6)) hgrow (by first | omega | (simp; omega)) (fun q hq => (hout5.lt q hq).1)
          have hg2 : g' = w.heap.size + 1 ∨ W2.heap.size ≤ g' := by
            simp only [Value.ownBlock, Option.some.injEq] at hat
            rcases hat with e | e
            · rw [e]; exact hgg
            · right
              rw [e]
              have a1 := HG.out.size
              have a2 := hB5.size
              have a3 := hBa.size
              omega
          have HG2 := Lib.hid (grow_off HG.out (below_then hB5 hBa) hgrow hgg)
          clear hP hown' hgrow hout5 hat
          go_wp2_with (fail)
          go_roundw
          case rel => exact ⟨P ++ [row], _, g', cap', by simp, by simp; omega, by simp, Lib.hid (tk_snoc HS.out HX.out), HPP, hg2, HG2, hB9⟩
          case measure => simp [intOf]; omega
        · have hPl2 : P.length = n := by omega
          have e := tk_end HS.out (by rw [HTL.out, hPl2]; exact Nat.le_refl _)
          have hnx : Nx wr (.slice (some ⟨g2, 0, none⟩) P.length cap2) P := HO.out.nx (by rw [hPl2]; unfold maxLen; omega) fun r hr => by
            rw [e] at hr
            rw [HTR.out r hr]
            unfold maxLen
            omega
          have hnx2 : Nx wr (.slice (some ⟨g2, 0, none⟩) P.length cap2) T := by rw [← e]; exact hnx
          have HNX := Lib.hid hnx2
          have i1 : (n : Int) ≤ P.length := by omega
          clear hnx hnx2 e hPl2
          go_wp2_with (fail)
          go_ret
          exact ⟨_, rfl, HNX.out, hB2⟩
end Go.Proofs.YtmcdkbnpcmiojaaGreat
