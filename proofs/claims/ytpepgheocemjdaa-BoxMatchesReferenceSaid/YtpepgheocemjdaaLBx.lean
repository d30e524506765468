/-
  law03: BoxMatchesReference.
-/
import Derived.Test.YtpepgheocemjdaaBoxM
import Derived.Test.YtpepgheocemjdaaSan3
import Derived.Test.YtpepgheocemjdaaInputP
import Derived.Test.YtpepgheocemjdaaR3E
import Derived.Test.YtpepgheocemjdaaR3F
namespace Go.Proofs.Ytpepgheocemjdaa
open Go.ChangeShapes Go.WideShapes Go.ChangeAt Go.RowKit
set_option linter.unusedVariables false
set_option linter.unusedSimpArgs false
set_option maxRecDepth 100000

attribute [local irreducible] Calls
theorem sqd_as (va vb : Value) (la lb : List (Int × Int)) (w : World) (hva : Bx w va la) (hvb : Bx w vb lb) (hlen : lb.length = la.length) (hv : ∀ z ∈ la.zip lb, VB z.1 ∧ VB z.2) :
    Calls Try.prog 38 #[va, vb] w fun e W' => e = .returned (.agg #[.int .i64 (sdist (la.zip lb)).1, .int .i64 (sdist (la.zip lb)).2]) ∧ Below w.heap.size w W' := box_sqd va vb la lb w hva hvb hlen hv
def MeetC (f : FuncId) (va vb : Value) (W : World) (ω : Bool) (L1 : List (Int × Int)) : Prop := ∀ g : Grown W, Calls Try.prog f #[va, vb] g.w fun e w' => ∃ v, e = .returned (.tuple #[v, .bool ω]) ∧ Bx w' v L1 ∧ Below g.w.heap.size g.w w'
theorem both_meet (va vb : Value) (la lb h : List (Int × Int)) (w : World) (hva : Bx w va la) (hvb : Bx w vb lb) (hlen : lb.length = la.length) (hv : ∀ z ∈ la.zip lb, VB z.1 ∧ VB z.2) (hsm : la.length ≤ 1000) (hh : (la.zip lb).map meetI = h) :
    ∃ ω L1, MeetC 24 va vb w ω L1 ∧ MeetC 25 va vb w ω L1 := by
  subst hh
  cases ho : (la.zip lb).all okM with
  | true =>
    refine ⟨true, (la.zip lb).map meetI, fun g => ?_, fun g => ?_⟩
    · exact (box_meet va vb la lb g.w (hva.grow g.h) (hvb.grow g.h) hlen hv hsm).mono fun e W' ⟨v, he, h1, _, hB⟩ => ⟨v, by rw [he, ho], h1 ho, hB⟩
    · exact (r3meet va vb la lb g.w (hva.grow g.h) (hvb.grow g.h) hlen hv hsm).mono fun e W' ⟨v, he, h1, _, hB⟩ => ⟨v, by rw [he, ho], h1 ho, hB⟩
  | false =>
    refine ⟨false, [], fun g => ?_, fun g => ?_⟩
    · exact (box_meet va vb la lb g.w (hva.grow g.h) (hvb.grow g.h) hlen hv hsm).mono fun e W' ⟨v, he, _, h2, hB⟩ => ⟨v, by rw [he, ho], by rw [h2 ho]; exact Bx.nil, hB⟩
    · exact (r3meet va vb la lb g.w (hva.grow g.h) (hvb.grow g.h) hlen hv hsm).mono fun e W' ⟨v, he, _, h2, hB⟩ => ⟨v, by rw [he, ho], by rw [h2 ho]; exact Bx.nil, hB⟩
set_option maxHeartbeats 32000000 in
theorem boxm_walk (vA vB vC p0 p1 : Value) (la lb lc : List (Int × Int)) (f f' : List Int) (n : Int) (w : World) (hA : Bx w vA la) (hB : Bx w vB lb) (hC : Bx w vC lc) (ba : I64 la) (bb : I64 lb) (bc : I64 lc) (hn0 : 0 ≤ n) (hn1 : n < 256) (hF : Us w p0 f) (bf : U16 f) (hF' : Us w p1 f') (bf' : U16 f') (vl : Value) (l : List Int) (hP : Pt w vl l) (bP : ∀ x ∈ l, -9223372036854775808 ≤ x ∧ x ≤ 9223372036854775807) (by' : Int) (hd0 : -9223372036854775808 ≤ by') (hd1 : by' ≤ 9223372036854775807) :
    Calls Try.prog 4 #[.agg #[vA, vB, vC, .int .u8 n, p0, p1], vl, .int .i64 by'] w fun e w' => e = .returned (.bool true) ∧ Below w.heap.size w w' := by
  have hm0 : 0 ≤ n % 6 := Int.emod_nonneg _ (by decide)
  have hm1 : n % 6 < 6 := Int.emod_lt_of_pos _ (by decide)
  obtain ⟨k, hk⟩ : ∃ k : Nat, 1 + n % 6 = (k : Int) := ⟨(1 + n % 6).toNat, by omega⟩
  have hk1 : 1 ≤ k := by omega
  have hk6 : k ≤ 6 := by omega
  have HF := Lib.hid hF
  have BF := Lib.hid bf
  have HG := Lib.hid hF'
  have BG := Lib.hid bf'
  have HA := Lib.hid hA
  have HB := Lib.hid hB
  have HC := Lib.hid hC
  have BA := Lib.hid ba
  have BB := Lib.hid bb
  have BC := Lib.hid bc
  clear hA hB hC ba bb bc hF bf hF' bf'
  go_enter Try.func4, Try.ntmps4
  go_wp2_with (fail)
  generalize hW0 : World.alloc w _ = W0
  have hT0 : Below w.heap.size w W0 := by subst hW0; exact ((Below.refl w.heap.size w).alloc (by go_size) _)
  have Y0 : w.heap.size < W0.heap.size := by subst hW0; simp <;> omega
  have F0_0 : ∀ g : Grown W0, g.w.cell? ⟨w.heap.size, 0, none⟩ = some (vA) := fun g => (g.cell Y0).trans (by subst hW0; simp [go_sem])
  have F0_1 : ∀ g : Grown W0, g.w.cell? ⟨w.heap.size, 1, none⟩ = some (vB) := fun g => (g.cell Y0).trans (by subst hW0; simp [go_sem])
  have F0_2 : ∀ g : Grown W0, g.w.cell? ⟨w.heap.size, 2, none⟩ = some (vC) := fun g => (g.cell Y0).trans (by subst hW0; simp [go_sem])
  have F0_3 : ∀ g : Grown W0, g.w.cell? ⟨w.heap.size, 3, none⟩ = some (.int .u8 n) := fun g => (g.cell Y0).trans (by subst hW0; simp [go_sem])
  have F0_4 : ∀ g : Grown W0, g.w.cell? ⟨w.heap.size, 4, none⟩ = some (p0) := fun g => (g.cell Y0).trans (by subst hW0; simp [go_sem])
  have F0_5 : ∀ g : Grown W0, g.w.cell? ⟨w.heap.size, 5, none⟩ = some (p1) := fun g => (g.cell Y0).trans (by subst hW0; simp [go_sem])
  clear Y0 hW0
  obtain ⟨g0, hg0⟩ : ∃ g : Grown W0, W0 = g.w := ⟨⟨W0, Below.refl _ _⟩, rfl⟩
  rw [hg0]
  refine (sanity3 _).mono ?_
  rintro e w' ⟨rfl, hB⟩
  obtain ⟨g1, rfl⟩ := grow g0 hB
  clear hB hg0
  go_wp2_with (fail)
  refine (law_boxes vA vB vC p0 p1 la lb n k _ ((HA.out.grow hT0).grow g1.h) ((HB.out.grow hT0).grow g1.h) BA.out BB.out hn0 hn1 hk hk6).mono ?_
  rintro e w' ⟨va, vb, a, b, rfl, a1, b1, a2, b2, ha, hb, hB⟩
  obtain ⟨g2, rfl⟩ := grow g1 hB
  have LA := Lib.hid a1
  have LB := Lib.hid b1
  have VBa := Lib.hid a2
  have VBb := Lib.hid b2
  clear hB a1 b1 a2 b2
  have HP := Lib.hid hP
  have BP := Lib.hid bP
  clear hP bP
  obtain ⟨pX, cX, hvX⟩ := HA.out.cut
  subst hvX
  obtain ⟨pl, cl, hvl⟩ := HP.out.cut
  subst hvl
  by_cases h20 : la.length ≤ 20
  · have i20 : (la.length : Int) ≤ 20 := by omega
    by_cases h6 : l.length ≤ 6
    · have i6 : (l.length : Int) ≤ 6 := by omega
      have lab : b.length = a.length := by rw [LA.out, LB.out]
      have Z1 := Lib.hid (vb_zip a b VBa.out VBb.out)
      have H0 := Lib.hid (meet_len a b lab)
      clear lab
      obtain ⟨h, hh⟩ : ∃ h, (a.zip b).map meetI = h := ⟨_, rfl⟩
      have E1 := Lib.hid hh
      clear hh
      have c1 := both_meet va vb a b h g2.w ha hb (by rw [LA.out, LB.out]) Z1.out (by rw [LA.out]; omega) E1.out
      obtain ⟨ω, L1, hc1, hc2⟩ := c1
      have HC1 := Lib.hid hc1
      have HC2 := Lib.hid hc2
      clear hc1 hc2
      go_wp2_with (fail)
      refine ((HC1.out ⟨_, Below.refl _ _⟩)).mono ?_
      rintro e w' ⟨v1, rfl, hm, hB⟩
      have hB3 := hB
      obtain ⟨g3, rfl⟩ := grow g2 hB
      replace ha := ha.grow hB
      replace hb := hb.grow hB
      clear hB
      go_wp2_with (fail)
      refine ((HC2.out ⟨_, hB3⟩)).mono ?_
      rintro e w' ⟨v2, rfl, hn, hB⟩
      obtain ⟨g4, rfl⟩ := grow g3 hB
      replace ha := ha.grow hB
      replace hb := hb.grow hB
      replace hm := hm.grow hB
      clear hB
      clear hB3
      go_wp2_with (fail)
      refine (r3point _ _ a f _ ha ((HF.out.grow hT0).grow g4.h) (by rw [LA.out]; omega) VBa.out BF.out).mono ?_
      rintro e w' ⟨vhp, m, rfl, m1, m2, m3, hp, hB⟩
      obtain ⟨g5, rfl⟩ := grow g4 hB
      replace ha := ha.grow hB
      replace hb := hb.grow hB
      replace hm := hm.grow hB
      replace hn := hn.grow hB
      clear hB
      have LM : Hid (m.length = k) := Lib.hid (by rw [m1, LA.out])
      have CM := Lib.hid m2
      have NM := Lib.hid m3
      clear m1 m2 m3
      go_wp2_with (fail)
      refine (law_mag by' _ hd0 hd1).mono ?_
      rintro e w' ⟨rfl, rfl⟩
      obtain ⟨M1, hM1⟩ : ∃ x, mag by' = x := ⟨_, rfl⟩
      have bM := mag_bd by'
      rw [hM1] at bM
      rw [hM1]
      clear hM1
      have bM0 := bM.1
      have bM1 := bM.2
      clear bM
      have bM2 : M1 ≤ 2147483648 := by omega
      have bM3 : M1 ≤ 4294967296 := by omega
      obtain ⟨β, hβ⟩ : ∃ x, (b.zip m).all con1 = x := ⟨_, rfl⟩
      have Hβ := Lib.hid hβ
      obtain ⟨δ, hδ⟩ : ∃ x, (a.zip b).all sub1 = x := ⟨_, rfl⟩
      have Hδ := Lib.hid hδ
      obtain ⟨ν, hν⟩ : ∃ x, (la.all (fun p => decide (VI p.1 p.2)) && (decide (1 ≤ la.length) && decide (la.length ≤ 6))) = x := ⟨_, rfl⟩
      have Hν := Lib.hid hν
      clear hβ hδ hν
      obtain ⟨W8, hW8⟩ : ∃ W, g5.w = W := ⟨_, rfl⟩
      have hU8 : Below W0.heap.size W0 W8 := hW8 ▸ g5.h
      have hT8 : Below w.heap.size w W8 := below_then hT0 hU8
      rw [hW8] at ha hb hm hn hp
      rw [hW8]
      clear hW8
      have F8 : ∀ g : Grown W8, g.w.cell? ⟨w.heap.size, 0, none⟩ = some (.slice pX la.length cX) := fun g => F0_0 ⟨g.w, below_then hU8 g.h⟩
      have hAX : Bx W8 (.slice pX la.length cX) la := HA.out.grow hT8
      have hPX : Pt W8 (.slice pl l.length cl) l := HP.out.grow hT8
      clear F0_0 F0_1 F0_2 F0_3 F0_4 F0_5 hU8
      have CVa : Hid (∀ g : Grown W8, Calls Try.prog 28 #[.slice pX la.length cX] g.w fun e w' => e = .returned (.bool ν) ∧ Below g.w.heap.size g.w w') := Lib.hid (fun g => (box_valid _ la _ (hAX.grow g.h)).mono fun e w' ⟨h, hB⟩ => ⟨by rw [h, Hν.out], hB⟩)
      have CVb : Hid (∀ g : Grown W8, Calls Try.prog 29 #[.slice pX la.length cX] g.w fun e w' => e = .returned (.bool ν) ∧ Below g.w.heap.size g.w w') := Lib.hid (fun g => (r3valid _ la _ (hAX.grow g.h)).mono fun e w' ⟨h, hB⟩ => ⟨by rw [h, Hν.out], hB⟩)
      have CS : Hid (∀ g : Grown W8, Calls Try.prog 30 #[v1, v2] g.w fun e w' => e = .returned (.bool true) ∧ Below g.w.heap.size g.w w') := Lib.hid (fun g => (r3same _ _ L1 L1 _ (hm.grow g.h) (hn.grow g.h)).mono fun e w' ⟨h, hB⟩ => ⟨by rw [h, show decide (L1 = L1) = true from decide_eq_true rfl], hB⟩)
      have CCa : Hid (∀ g : Grown W8, Calls Try.prog 31 #[vb, vhp] g.w fun e w' => e = .returned (.bool β) ∧ Below g.w.heap.size g.w w') := Lib.hid (fun g => (box_contains _ _ b m _ (hb.grow g.h) (hp.grow g.h) (by rw [LM.out, LB.out])).mono fun e w' ⟨h, hB⟩ => ⟨by rw [h, Hβ.out], hB⟩)
      have CCb : Hid (∀ g : Grown W8, Calls Try.prog 32 #[vb, vhp] g.w fun e w' => e = .returned (.bool β) ∧ Below g.w.heap.size g.w w') := Lib.hid (fun g => (r3contains _ _ b m _ (hb.grow g.h) (hp.grow g.h) (by rw [LM.out, LB.out])).mono fun e w' ⟨h, hB⟩ => ⟨by rw [h, Hβ.out], hB⟩)
      have CUa : Hid (∀ g : Grown W8, Calls Try.prog 33 #[va, vb] g.w fun e w' => e = .returned (.bool δ) ∧ Below g.w.heap.size g.w w') := Lib.hid (fun g => (box_subset _ _ a b _ (ha.grow g.h) (hb.grow g.h) (by rw [LA.out, LB.out])).mono fun e w' ⟨h, hB⟩ => ⟨by rw [h, Hδ.out], hB⟩)
      have CUb : Hid (∀ g : Grown W8, Calls Try.prog 34 #[va, vb] g.w fun e w' => e = .returned (.bool δ) ∧ Below g.w.heap.size g.w w') := Lib.hid (fun g => (r3subset _ _ a b _ (ha.grow g.h) (hb.grow g.h) (by rw [LA.out, LB.out])).mono fun e w' ⟨h, hB⟩ => ⟨by rw [h, Hδ.out], hB⟩)
      obtain ⟨G0, hG0⟩ : ∃ g : Grown W8, W8 = g.w := ⟨⟨W8, Below.refl _ _⟩, rfl⟩
      rw [hG0]
      clear hG0 hm hn
      go_wp2_with (fail)
      refine region_quiet' G0 (by kernel_rfl) (by kernel_rfl) ?_
      repeat (go_big_quiet_step (first | (go_at_call 28; exact qc (CVa.out _)) | (go_at_call 29; exact qc (CVb.out _)) | (go_at_call 30; exact qc (CS.out _)) | (go_at_call 31; exact qc (CCa.out _)) | (go_at_call 32; exact qc (CCb.out _)) | (go_at_call 33; exact qc (CUa.out _)) | (go_at_call 34; exact qc (CUb.out _))))
      refine wpQuiet_nil ?_
      rintro _ ⟨G1, rfl⟩
      clear CVa CVb CS CCa CCb CUa CUb F8
      obtain ⟨W9, hW9⟩ : ∃ W, G1.w = W := ⟨_, rfl⟩
      have hT9 : Below w.heap.size w W9 := hW9 ▸ below_then hT8 G1.h
      have hG9 : Below W8.heap.size W8 W9 := hW9 ▸ G1.h
      rw [hW9]
      replace ha := ha.grow hG9
      replace hb := hb.grow hG9
      replace hPX := hPX.grow hG9
      clear hW9 hp hAX hG9
      have HPX := Lib.hid hPX
      clear hPX
      obtain ⟨i0, hi, hz0, hz1, hz2⟩ := info_parts info_i64
      have hl6 := h6
      go_wp2_with (fail)
      go_loopw [16, 17] (fun u i wr => ∃ m : List Int, i = .int .i64 m.length ∧ m.length ≤ l.length ∧ Hid (m = (l.map (fun x => x.tmod 16777216)).take m.length) ∧ OwnJ W9.heap.size wr u m ∧ Below W9.heap.size W9 wr) (fun _ i _ => l.length - (intOf i).toNat)
      case atStart => exact ⟨[], rfl, Nat.zero_le _, Lib.hid (by simp), ⟨W9.heap.size, 0, rfl, by simpa [cy] using World.ownsRow_made (e := 2) (size := 1) W9 #[] 0 (Nat.le_refl _) (by decide) rfl⟩, (Below.refl _ _).alloc (Nat.le_refl _) _⟩
      case round =>
        obtain ⟨m, rfl, hm, HT, ⟨g, cap, rfl, hown⟩, hB⟩ := hrel
        by_cases hlt : m.length < l.length
        · obtain ⟨x, hx⟩ : ∃ x, l[m.length]? = some x := ⟨l[m.length], List.getElem?_eq_getElem hlt⟩
          obtain ⟨ba, oa, hpa, hba, rdA⟩ := HPX.out.rd2 hx
          subst hpa
          have fA := (rdA ⟨wr, hB⟩).2
          dsimp only at fA
          clear rdA
          have hbd := BP.out x (at_mem hx)
          have cm := fun w => r1made x w hbd.1 hbd.2
          have HX0 := map_some (g := fun x : Int => x.tmod 16777216) hx
          obtain ⟨q, hq⟩ : ∃ q, x.tmod 16777216 = q := ⟨_, rfl⟩
          rw [hq] at cm
          have HX : Hid ((l.map (fun x => x.tmod 16777216))[m.length]? = some q) := Lib.hid (HX0.trans (congrArg some hq))
          have HCM := Lib.hid cm
          clear hx hbd cm HX0 hq
          have i1 : (m.length : Int) < l.length := by omega
          have hgw := (hown.lt g rfl).2
          have hg5 : W9.heap.size ≤ wr.heap.size := hB.size
          go_wp2_with (fail)
          refine (HCM.out _).mono ?_
          rintro e w5 ⟨rfl, rfl⟩
          go_wp2_with (at_builtin; refine wpList_append_own _ rfl (.tmp 96) (.tmp 102) 30 rfl W9.heap.size 2 i0 (.int .i64 0) 1 8 Try.underlying30 hi hz0 hz1 hz2 rfl (by decide) (.slice (some ⟨g, 0, none⟩) m.length cap) m.length _ rfl (hown.alloc _) ⟨wr.heap.size, 0, none⟩ 1 1 [.int .i64 q] rfl rfl (new_one _ _ _) (one_i64 _) (by unfold maxLen; omega) (by omega) (by first | omega | (simp; omega)) ?_)
          have hB8 := hB.alloc hg5 (.cells #[.int .i64 q] 2)
          intro v' w6 hown' hgrow _
          obtain ⟨g', cap', rfl⟩ := ownsRow_succ hown'
          have hB9 : Below W9.heap.size W9 w6 := Below.grown hB8 hgrow (by first | omega | (simp; omega)) (fun k hk => (hown.lt k hk).1)
          rw [← cy_snoc] at hown'
          have HO := Lib.hid hown'
          clear hown' hgrow
          skip
          go_wp2_with (fail)
          go_roundw
          case rel =>
            exact ⟨m ++ [q], by simp, by simp; omega, Lib.hid (take_snoc HT.out HX.out), ⟨g', cap', by simp, by simpa [] using HO.out⟩, hB9⟩
          case measure => simp [intOf]; omega
        · have hle : l.length ≤ m.length := by omega
          obtain hml : m.length = l.length := by omega
          have i1 : (l.length : Int) ≤ m.length := by omega
          have e := take_end HT.out (by rw [List.length_map]; exact hle)
          have hpt : Pt wr (.slice (some ⟨g, 0, none⟩) m.length cap) m := Pt.own hown (by unfold maxLen; omega)
          have HML := Lib.hid hml
          clear e HT hle hml
          obtain ⟨g20, rfl⟩ : ∃ g : Grown W9, wr = g.w := ⟨⟨wr, hB⟩, rfl⟩
          replace ha := ha.grow hB
          replace hb := hb.grow hB
          clear hown hB
          go_wp2_with (fail)
          refine (box_hull _ _ a b _ ha hb (by rw [LA.out, LB.out]) Z1.out (by rw [LA.out]; omega)).mono ?_
          rintro e w' ⟨v3, rfl, hx, hB⟩
          obtain ⟨g21, rfl⟩ := grow g20 hB
          replace ha := ha.grow hB
          replace hb := hb.grow hB
          replace hpt := hpt.grow hB
          clear hB
          go_wp2_with (fail)
          refine (r3hull _ _ a b _ ha hb (by rw [LA.out, LB.out]) (by rw [LA.out]; omega)).mono ?_
          rintro e w' ⟨v4, rfl, hy, hB⟩
          obtain ⟨g22, rfl⟩ := grow g21 hB
          replace ha := ha.grow hB
          replace hb := hb.grow hB
          replace hpt := hpt.grow hB
          replace hx := hx.grow hB
          clear hB
          go_wp2_with (fail)
          refine (r3same _ _ ((a.zip b).map hullI) ((a.zip b).map hullI) _ hx hy).mono ?_
          rintro e w' ⟨he, hB⟩
          obtain rfl : e = .returned (.bool true) := by rw [he, show decide (((a.zip b).map hullI) = ((a.zip b).map hullI)) = true from decide_eq_true rfl]
          clear he
          obtain ⟨g23, rfl⟩ := grow g22 hB
          replace ha := ha.grow hB
          replace hb := hb.grow hB
          replace hpt := hpt.grow hB
          replace hx := hx.grow hB
          replace hy := hy.grow hB
          clear hB
          clear hx hy
          go_wp2_with (fail)
          refine (sqd_as _ _ a b _ ha hb (by rw [LA.out, LB.out]) Z1.out).mono ?_
          rintro e w' ⟨he, hB⟩
          obtain rfl : e = .returned (.agg #[.int .i64 (sdist (a.zip b)).1, .int .i64 (sdist (a.zip b)).2]) := by rw [he]
          clear he
          obtain ⟨g24, rfl⟩ := grow g23 hB
          replace ha := ha.grow hB
          replace hb := hb.grow hB
          replace hpt := hpt.grow hB
          clear hB
          go_wp2_with (fail)
          refine (r3sqd _ _ a b _ ha hb (by rw [LA.out, LB.out]) Z1.out).mono ?_
          rintro e w' ⟨he, hB⟩
          obtain rfl : e = .returned (.agg #[.int .i64 (sdist (a.zip b)).1, .int .i64 (sdist (a.zip b)).2]) := by rw [he]
          clear he
          obtain ⟨g25, rfl⟩ := grow g24 hB
          replace ha := ha.grow hB
          replace hb := hb.grow hB
          replace hpt := hpt.grow hB
          clear hB
          obtain ⟨σ, hσ⟩ : ∃ x, sepI M1 (sdist (a.zip b)) = x := ⟨_, rfl⟩
          have Hσ := Lib.hid hσ
          clear hσ
          go_wp2_with (fail)
          refine (box_sep _ _ a b M1 _ ha hb (by rw [LA.out, LB.out]) Z1.out bM0 bM2).mono ?_
          rintro e w' ⟨he, hB⟩
          obtain rfl : e = .returned (.bool σ) := by rw [he, Hσ.out]
          clear he
          obtain ⟨g26, rfl⟩ := grow g25 hB
          replace ha := ha.grow hB
          replace hb := hb.grow hB
          replace hpt := hpt.grow hB
          clear hB
          go_wp2_with (fail)
          refine (r3sep _ _ a b M1 _ ha hb (by rw [LA.out, LB.out]) Z1.out bM0 bM2).mono ?_
          rintro e w' ⟨he, hB⟩
          obtain rfl : e = .returned (.bool σ) := by rw [he, Hσ.out]
          clear he
          obtain ⟨g27, rfl⟩ := grow g26 hB
          replace ha := ha.grow hB
          replace hb := hb.grow hB
          replace hpt := hpt.grow hB
          clear hB
          go_wp2_with (fail)
          refine (box_inflate _ a M1 _ ha (by rw [LA.out]; omega) bM0 bM3 VBa.out).mono ?_
          rintro e w' ⟨v5, rfl, hx, hB⟩
          obtain ⟨g28, rfl⟩ := grow g27 hB
          replace ha := ha.grow hB
          replace hb := hb.grow hB
          replace hpt := hpt.grow hB
          clear hB
          go_wp2_with (fail)
          refine (r3infl _ a M1 _ ha (by rw [LA.out]; omega) bM0 bM3 VBa.out).mono ?_
          rintro e w' ⟨v6, rfl, hy, hB⟩
          obtain ⟨g29, rfl⟩ := grow g28 hB
          replace ha := ha.grow hB
          replace hb := hb.grow hB
          replace hpt := hpt.grow hB
          replace hx := hx.grow hB
          clear hB
          go_wp2_with (fail)
          refine (r3same _ _ (a.map (inflI M1)) (a.map (inflI M1)) _ hx hy).mono ?_
          rintro e w' ⟨he, hB⟩
          obtain rfl : e = .returned (.bool true) := by rw [he, show decide ((a.map (inflI M1)) = (a.map (inflI M1))) = true from decide_eq_true rfl]
          clear he
          obtain ⟨g30, rfl⟩ := grow g29 hB
          replace ha := ha.grow hB
          replace hb := hb.grow hB
          replace hpt := hpt.grow hB
          replace hx := hx.grow hB
          replace hy := hy.grow hB
          clear hB
          clear hx hy
          by_cases hz : m.length = 0
          · have z1 : ((m.length : Int) == 0) = true := by rw [hz]; rfl
            go_wp2_with (fail)
            go_ret
            exact ⟨rfl, below_then hT9 g30.h⟩
          · have z1 : ((m.length : Int) == 0) = false := by rw [beq_eq_false_iff_ne]; omega
            go_wp2_with (fail)
            refine (box_point _ m _ hpt (by omega)).mono ?_
            rintro e w' ⟨v7, rfl, hx, hB⟩
            obtain ⟨g31, rfl⟩ := grow g30 hB
            replace ha := ha.grow hB
            replace hb := hb.grow hB
            replace hpt := hpt.grow hB
            clear hB
            go_wp2_with (fail)
            refine (r3pt _ m _ hpt (by omega)).mono ?_
            rintro e w' ⟨v8, rfl, hy, hB⟩
            obtain ⟨g32, rfl⟩ := grow g31 hB
            replace ha := ha.grow hB
            replace hb := hb.grow hB
            replace hpt := hpt.grow hB
            replace hx := hx.grow hB
            clear hB
            go_wp2_with (fail)
            refine (r3same _ _ (m.map ptI) (m.map ptI) _ hx hy).mono ?_
            rintro e w' ⟨he, hB⟩
            obtain rfl : e = .returned (.bool true) := by rw [he, show decide ((m.map ptI) = (m.map ptI)) = true from decide_eq_true rfl]
            clear he
            obtain ⟨g33, rfl⟩ := grow g32 hB
            replace ha := ha.grow hB
            replace hb := hb.grow hB
            replace hpt := hpt.grow hB
            replace hx := hx.grow hB
            replace hy := hy.grow hB
            clear hB
            go_wp2_with (fail)
            go_ret
            exact ⟨rfl, below_then hT9 g33.h⟩
    · have i6 : (6 : Int) < l.length := by omega
      go_wp2_with (fail)
      go_ret
      exact ⟨rfl, below_then hT0 g2.h⟩
  · have i20 : (20 : Int) < la.length := by omega
    go_wp2_with (fail)
    go_ret
    exact ⟨rfl, below_then hT0 g2.h⟩
theorem boxm (w : World) (vA vB vC p0 p1 : Value) (n : Int) (la lb lc : List (Int × Int)) (f0 f1 : List Int) (hA : Bx w vA la ∧ I64 la) (hB : Bx w vB lb ∧ I64 lb) (hC : Bx w vC lc ∧ I64 lc) (hn : 0 ≤ n ∧ n < 256) (h0 : Us w p0 f0 ∧ U16 f0) (h1 : Us w p1 f1 ∧ U16 f1) (vl : Value) (l : List Int) (hP : Pt w vl l ∧ ∀ x ∈ l, -9223372036854775808 ≤ x ∧ x ≤ 9223372036854775807) (a2 : Int) (w2 : (Lit.int .i64 a2).wf = true) :
    Calls Try.prog 4 #[.agg #[vA, vB, vC, .int .u8 n, p0, p1], vl, .int .i64 a2] w fun e w' => e = .returned (.bool true) ∧ Below w.heap.size w w' :=
  boxm_walk vA vB vC p0 p1 la lb lc f0 f1 n w hA.1 hB.1 hC.1 hA.2 hB.2 hC.2 hn.1 hn.2 h0.1 h0.2 h1.1 h1.2 vl l hP.1 hP.2 a2 (bounds_i64 w2).1 (bounds_i64 w2).2
end Go.Proofs.Ytpepgheocemjdaa
