/-
  law03: BoxDistanceEncloses.
-/
import Derived.Test.YtpepgheocemjdaaBoxN
import Derived.Test.YtpepgheocemjdaaSan3
import Derived.Test.YtpepgheocemjdaaInputP
import Derived.Test.YtpepgheocemjdaaRefM
import Derived.Test.YtpepgheocemjdaaR3A
namespace Go.Proofs.Ytpepgheocemjdaa
open Go.ChangeShapes Go.WideShapes Go.ChangeAt Go.RowKit
set_option linter.unusedVariables false
set_option linter.unusedSimpArgs false
set_option maxRecDepth 100000

theorem Pt.shape {w : World} {v : Value} {l : List Int} {n : Nat} (h : Pt w v l) (hn : l.length = n) : ∃ p c, v = .slice p n c := by
  obtain ⟨_, p, c, e, _⟩ := h
  exact ⟨p, c, by rw [e, hn]⟩
theorem dsum_mem (f : Int × Int → Int) : ∀ (l : List (Int × Int)) (s : Int), (∀ z ∈ l, 0 ≤ f z) → s ≤ l.foldl (fun s z => s + f z) s ∧ ∀ z ∈ l, s + f z ≤ l.foldl (fun s z => s + f z) s
  | [], s, _ => ⟨Int.le_refl _, fun z h => by simp at h⟩
  | y :: l, s, h => by
    obtain ⟨h1, h2⟩ := dsum_mem f l (s + f y) (fun z hz => h z (by simp [hz]))
    have h0 := h y (by simp)
    rw [List.foldl_cons]
    refine ⟨by omega, fun z hz => ?_⟩
    rcases List.mem_cons.1 hz with rfl | hz
    · exact h1
    · have := h2 z hz
      omega
theorem zip_num {m q : List Int} (hm : ∀ x ∈ m, Num x) (hq : ∀ x ∈ q, Num x) : ∀ z ∈ m.zip q, Num z.1 ∧ Num z.2 := fun z hz => ⟨hm _ (List.of_mem_zip (a := z.1) (b := z.2) hz).1, hq _ (List.of_mem_zip (a := z.1) (b := z.2) hz).2⟩
theorem diff_bd (m q : List Int) (hm : ∀ x ∈ m, Num x) (hq : ∀ x ∈ q, Num x) (h : dsum dlo (m.zip q) ≤ 2147483648) : ∀ x y, (x, y) ∈ m.zip q → -16777216 ≤ x - y ∧ x - y ≤ 16777216 := by
  intro x y hxy
  have hz := zip_num hm hq
  have h2 := (dsum_mem dlo (m.zip q) 0 (fun z k => (dlo_bd (hz z k).1 (hz z k).2).1)).2 (x, y) hxy
  have h3 : dlo (x, y) ≤ 2147483648 := by
    unfold dsum at h
    omega
  have h4 := (dn_mul ((x - y) * (x - y)) (d := 65536) (by decide)).2
  unfold dlo at h3
  simp only at h3
  have h5 : (x - y) * (x - y) < 16777217 * 16777217 := by omega
  have h6 := sq_lt h5 (by decide)
  have h7 : (-(x - y)) * (-(x - y)) < 16777217 * 16777217 := by rw [Int.neg_mul_neg]; exact h5
  have h8 := sq_lt h7 (by decide)
  omega
theorem dsum_bd (f : Int × Int → Int) (B : Int) : ∀ (l : List (Int × Int)) (s : Int), (∀ z ∈ l, 0 ≤ f z ∧ f z ≤ B) → s ≤ l.foldl (fun s z => s + f z) s ∧ l.foldl (fun s z => s + f z) s ≤ s + l.length * B
  | [], s, _ => by simp
  | y :: l, s, h => by
    obtain ⟨h1, h2⟩ := dsum_bd f B l (s + f y) (fun z hz => h z (by simp [hz]))
    have h0 := h y (by simp)
    rw [List.foldl_cons]
    have : ((y :: l).length : Int) * B = l.length * B + B := by
      rw [List.length_cons, Int.natCast_add, Int.add_mul]
      simp
    omega
theorem take_bd (m q : List Int) (hm : ∀ x ∈ m, Num x) (hq : ∀ x ∈ q, Num x) (n : Nat) {k : Nat} (hn : n ≤ k) (hk : (m.zip q).length = k) (h6 : k ≤ 6) :
    (0 ≤ dsum dlo ((m.zip q).take n) ∧ dsum dlo ((m.zip q).take n) ≤ 1688849860263936) ∧ 0 ≤ dsum dhi ((m.zip q).take n) ∧ dsum dhi ((m.zip q).take n) ≤ 1688849860263936 := by
  have hz := zip_num hm hq
  have hl : ((m.zip q).take n).length ≤ 6 := by rw [List.length_take]; omega
  have a := dsum_bd dlo 281474976710656 ((m.zip q).take n) 0 (fun z k => dlo_bd (hz z (List.mem_of_mem_take k)).1 (hz z (List.mem_of_mem_take k)).2)
  have b := dsum_bd dhi 281474976710656 ((m.zip q).take n) 0 (fun z k => dhi_bd (hz z (List.mem_of_mem_take k)).1 (hz z (List.mem_of_mem_take k)).2)
  unfold dsum
  omega
attribute [local irreducible] Calls
set_option maxHeartbeats 32000000 in
theorem dist_walk (vA vB vC p0 p1 : Value) (la lb lc : List (Int × Int)) (f f' : List Int) (n : Int) (w : World) (hA : Bx w vA la) (hB : Bx w vB lb) (hC : Bx w vC lc) (ba : I64 la) (bb : I64 lb) (bc : I64 lc) (hn0 : 0 ≤ n) (hn1 : n < 256) (hF : Us w p0 f) (bf : U16 f) (hF' : Us w p1 f') (bf' : U16 f') :
    Calls Try.prog 9 #[.agg #[vA, vB, vC, .int .u8 n, p0, p1]] w fun e w' => e = .returned (.bool true) ∧ Below w.heap.size w w' := by
  have hm0 : 0 ≤ n % 6 := Int.emod_nonneg _ (by decide)
  have hm1 : n % 6 < 6 := Int.emod_lt_of_pos _ (by decide)
  obtain ⟨k, hk⟩ : ∃ k : Nat, 1 + n % 6 = (k : Int) := ⟨(1 + n % 6).toNat, by omega⟩
  have hk1 : 1 ≤ k := by omega
  have hk6 : k ≤ 6 := by omega
  have HF := Lib.hid hF
  have BF := Lib.hid bf
  have HG := Lib.hid hF'
  have BG := Lib.hid bf'
  have HA := Lib.hid hA
  have HB := Lib.hid hB
  have HC := Lib.hid hC
  have BA := Lib.hid ba
  have BB := Lib.hid bb
  have BC := Lib.hid bc
  clear hA hB hC ba bb bc hF bf hF' bf'
  go_enter Try.func9, Try.ntmps9
  go_wp2_with (fail)
  generalize hW0 : World.alloc w _ = W0
  have hT0 : Below w.heap.size w W0 := by subst hW0; exact ((Below.refl w.heap.size w).alloc (by go_size) _)
  have Y0 : w.heap.size < W0.heap.size := by subst hW0; simp <;> omega
  have F0_0 : ∀ g : Grown W0, g.w.cell? ⟨w.heap.size, 0, none⟩ = some (vA) := fun g => (g.cell Y0).trans (by subst hW0; simp [go_sem])
  have F0_1 : ∀ g : Grown W0, g.w.cell? ⟨w.heap.size, 1, none⟩ = some (vB) := fun g => (g.cell Y0).trans (by subst hW0; simp [go_sem])
  have F0_2 : ∀ g : Grown W0, g.w.cell? ⟨w.heap.size, 2, none⟩ = some (vC) := fun g => (g.cell Y0).trans (by subst hW0; simp [go_sem])
  have F0_3 : ∀ g : Grown W0, g.w.cell? ⟨w.heap.size, 3, none⟩ = some (.int .u8 n) := fun g => (g.cell Y0).trans (by subst hW0; simp [go_sem])
  have F0_4 : ∀ g : Grown W0, g.w.cell? ⟨w.heap.size, 4, none⟩ = some (p0) := fun g => (g.cell Y0).trans (by subst hW0; simp [go_sem])
  have F0_5 : ∀ g : Grown W0, g.w.cell? ⟨w.heap.size, 5, none⟩ = some (p1) := fun g => (g.cell Y0).trans (by subst hW0; simp [go_sem])
  clear Y0 hW0
  obtain ⟨g0, hg0⟩ : ∃ g : Grown W0, W0 = g.w := ⟨⟨W0, Below.refl _ _⟩, rfl⟩
  rw [hg0]
  refine (sanity3 _).mono ?_
  rintro e w' ⟨rfl, hB⟩
  obtain ⟨g1, rfl⟩ := grow g0 hB
  clear hB hg0
  go_wp2_with (fail)
  refine (law_boxes vA vB vC p0 p1 la lb n k _ ((HA.out.grow hT0).grow g1.h) ((HB.out.grow hT0).grow g1.h) BA.out BB.out hn0 hn1 hk hk6).mono ?_
  rintro e w' ⟨va, vb, a, b, rfl, a1, b1, a2, b2, ha, hb, hB⟩
  obtain ⟨g2, rfl⟩ := grow g1 hB
  have LA := Lib.hid a1
  have LB := Lib.hid b1
  have VBa := Lib.hid a2
  have VBb := Lib.hid b2
  clear hB a1 b1 a2 b2
  go_wp2_with (fail)
  refine (r3point _ _ a f _ ha ((HF.out.grow hT0).grow g2.h) (by rw [LA.out]; omega) VBa.out BF.out).mono ?_
  rintro e w' ⟨vhp, m, rfl, m1, m2, m3, hp, hB⟩
  obtain ⟨g3, rfl⟩ := grow g2 hB
  replace ha := ha.grow hB
  replace hb := hb.grow hB
  clear hB
  have LM : Hid (m.length = k) := Lib.hid (by rw [m1, LA.out])
  have CM := Lib.hid m2
  have NM := Lib.hid m3
  clear m1 m2 m3
  go_wp2_with (fail)
  refine (r3point _ _ b f' _ hb ((HG.out.grow hT0).grow g3.h) (by rw [LB.out]; omega) VBb.out BG.out).mono ?_
  rintro e w' ⟨vhq, q, rfl, m1, m2, m3, hq, hB⟩
  obtain ⟨g4, rfl⟩ := grow g3 hB
  replace ha := ha.grow hB
  replace hb := hb.grow hB
  replace hp := hp.grow hB
  clear hB
  have LQ : Hid (q.length = k) := Lib.hid (by rw [m1, LB.out])
  have CQ := Lib.hid m2
  have NQ := Lib.hid m3
  clear m1 m2 m3
  have lab : b.length = a.length := by rw [LA.out, LB.out]
  have lam : m.length = a.length := by rw [LA.out, LM.out]
  have laq : q.length = a.length := by rw [LA.out, LQ.out]
  have Z1 := Lib.hid (vb_zip a b VBa.out VBb.out)
  have Z2 := Lib.hid (vb_zip b a VBb.out VBa.out)
  have V1 := Lib.hid (dist_enc a b m q lab lam laq NM.out NQ.out CM.out CQ.out)
  have V2 := Lib.hid (sdist_vb (a.zip b))
  have V3 := Lib.hid (sdist_comm a b)
  clear lab lam laq
  obtain ⟨dl, dh, hD⟩ : ∃ x y, sdist (a.zip b) = (x, y) := ⟨(sdist (a.zip b)).1, (sdist (a.zip b)).2, rfl⟩
  rw [hD] at V1 V2 V3
  have HD := Lib.hid hD
  clear hD
  obtain ⟨pm, cm, rfl⟩ := hp.shape LM.out
  obtain ⟨pq, cq, rfl⟩ := hq.shape LQ.out
  have CA : Hid (∀ g : Grown g4.w, Calls Try.prog 38 #[va, vb] g.w fun e w' => e = .returned (.agg #[.int .i64 dl, .int .i64 dh]) ∧ Below g.w.heap.size g.w w') := Lib.hid (fun g => (box_sqd _ _ a b _ (ha.grow g.h) (hb.grow g.h) (by rw [LA.out, LB.out]) Z1.out).mono fun e w' ⟨h, hB⟩ => ⟨by rw [h, HD.out]; rfl, hB⟩)
  have CB : Hid (∀ g : Grown g4.w, Calls Try.prog 38 #[vb, va] g.w fun e w' => e = .returned (.agg #[.int .i64 dl, .int .i64 dh]) ∧ Below g.w.heap.size g.w w') := Lib.hid (fun g => (box_sqd _ _ b a _ (hb.grow g.h) (ha.grow g.h) (by rw [LA.out, LB.out]) Z2.out).mono fun e w' ⟨h, hB⟩ => ⟨by rw [h, V3.out]; rfl, hB⟩)
  have CV : Hid (∀ w, Calls Try.prog 56 #[.agg #[.int .i64 dl, .int .i64 dh]] w fun e w' => e = .returned (.bool true) ∧ Below w.heap.size w w') := Lib.hid (fun w => iv_valid dl dh true w (decide_eq_true V2.out))
  clear ha hb F0_0 F0_1 F0_2 F0_3 F0_4 F0_5
  obtain ⟨W8, hW8⟩ : ∃ W, g4.w = W := ⟨_, rfl⟩
  have hT8 : Below w.heap.size w W8 := hW8 ▸ below_then hT0 g4.h
  rw [hW8] at hp hq CA CB
  rw [hW8]
  clear hW8
  go_wp2_with (fail)
  refine (CA.out ⟨W8, Below.refl _ _⟩).mono ?_
  rintro e w' ⟨rfl, hB⟩
  obtain ⟨G0, hG0⟩ : ∃ g : Grown W8, w' = g.w := ⟨⟨w', hB⟩, rfl⟩
  subst hG0
  clear hB
  go_wp2_with (fail)
  generalize hW9 : World.alloc G0.w _ = W9
  have hL9 : Below W8.heap.size W8 W9 := by subst hW9; exact G0.h.alloc G0.h.size _
  have hT9 : Below w.heap.size w W9 := below_then hT8 hL9
  obtain ⟨nb, hnb⟩ : ∃ nb, nb = G0.w.heap.size := ⟨_, rfl⟩
  have Y9 : nb < W9.heap.size := by subst hW9; subst hnb; simp
  have S9 : ∀ g : Grown W9, nb < g.w.heap.size := fun g => Nat.lt_of_lt_of_le Y9 g.h.size
  have F9_0 : ∀ g : Grown W9, g.w.cell? ⟨nb, 0, none⟩ = some (.int .i64 dl) := fun g => (g.cell Y9).trans (by subst hW9; subst hnb; simp [go_sem])
  have F9_1 : ∀ g : Grown W9, g.w.cell? ⟨nb, 1, none⟩ = some (.int .i64 dh) := fun g => (g.cell Y9).trans (by subst hW9; subst hnb; simp [go_sem])
  have CB9 : Hid (∀ g : Grown W9, Calls Try.prog 38 #[vb, va] g.w fun e w' => e = .returned (.agg #[.int .i64 dl, .int .i64 dh]) ∧ Below g.w.heap.size g.w w') := Lib.hid (fun g => CB.out ⟨g.w, hL9.trans (g.h.mono hL9.size)⟩)
  replace hp := hp.grow hL9
  replace hq := hq.grow hL9
  rw [← hnb]
  clear hnb hW9 Y9 CA CB hL9 hT8
  obtain ⟨G1, hG1⟩ : ∃ g : Grown W9, W9 = g.w := ⟨⟨W9, Below.refl _ _⟩, rfl⟩
  rw [hG1]
  clear hG1
  refine region_quiet' G1 (by kernel_rfl) (by kernel_rfl) ?_
  repeat (go_big_quiet_step (first | (go_at_call 38; exact qc (CB9.out _)) | (go_at_call 56; exact qc (CV.out _))))
  refine wpQuiet_nil ?_
  rintro _ ⟨G2, rfl⟩
  by_cases he : Ent dl dh
  · obtain ⟨rfl, rfl⟩ := he
    go_wp2_with (fail)
    refine (iv_ent_yes _).mono ?_
    rintro e w' ⟨rfl, hB⟩
    obtain ⟨G3, rfl⟩ := grow G2 hB
    clear hB
    go_wp2_with (fail)
    go_ret
    exact ⟨rfl, below_then hT9 G3.h⟩
  · have hd := V1.out he
    have hN : Num dl ∧ Num dh ∧ dl ≤ dh := V2.out.resolve_left he
    have CE : Hid (∀ w, Calls Try.prog 57 #[.agg #[.int .i64 dl, .int .i64 dh]] w fun e w' => e = .returned (.bool false) ∧ Below w.heap.size w w') := Lib.hid (fun w => iv_ent_no dl dh w he)
    clear he
    have e1 : decide (dl ≤ dsum dhi (m.zip q)) = true := decide_eq_true hd.2.1
    have e2 : decide (dsum dlo (m.zip q) ≤ dh) = true := decide_eq_true hd.2.2
    have e3 : decide (0 ≤ dl) = true := decide_eq_true hd.1
    have BD := Lib.hid (diff_bd m q NM.out NQ.out (show dsum dlo (m.zip q) ≤ 2147483648 by have := hd.2.2; have := hN.2.1; unfold Num at this; omega))
    have lz : (m.zip q).length = k := by rw [List.length_zip, LM.out, LQ.out]; omega
    have LZ := Lib.hid lz
    have E1 := Lib.hid e1
    have E2 := Lib.hid e2
    clear hd hN lz e1 e2
    go_wp2_with (fail)
    refine (CE.out _).mono ?_
    rintro e w' ⟨rfl, hB⟩
    obtain ⟨G3, rfl⟩ := grow G2 hB
    clear hB
    go_wp2_with (fail)
    go_loopw [9, 10, 11] (fun lo hi i wr => ∃ (n : Nat) (s1 s2 : Int), i = .int .i64 n ∧ n ≤ k ∧ lo = .int .i64 s1 ∧ hi = .int .i64 s2 ∧ Hid (s1 = dsum dlo ((m.zip q).take n)) ∧ Hid (s2 = dsum dhi ((m.zip q).take n)) ∧ ∃ g : Grown W9, wr = g.w) (fun _ _ i _ => k - (intOf i).toNat)
    case atStart => exact ⟨0, 0, 0, rfl, Nat.zero_le _, rfl, rfl, Lib.hid (by simp [dsum]), Lib.hid (by simp [dsum]), G3, rfl⟩
    case round =>
      obtain ⟨n', s1, s2, rfl, hn, rfl, rfl, H1, H2, g, rfl⟩ := hrel
      by_cases hlt : n' < k
      · have hz := take_bd m q NM.out NQ.out n' (by omega) LZ.out hk6
        have z1 : 0 ≤ s1 := by rw [H1.out]; exact hz.1.1
        have z2 : s1 ≤ 1688849860263936 := by rw [H1.out]; exact hz.1.2
        have z3 : 0 ≤ s2 := by rw [H2.out]; exact hz.2.1
        have z4 : s2 ≤ 1688849860263936 := by rw [H2.out]; exact hz.2.2
        have lm' : n' < m.length := by rw [LM.out]; exact hlt
        have lq' : n' < q.length := by rw [LQ.out]; exact hlt
        obtain ⟨x, hx⟩ : ∃ x, m[n']? = some x := ⟨m[n'], List.getElem?_eq_getElem lm'⟩
        obtain ⟨y, hy⟩ : ∃ y, q[n']? = some y := ⟨q[n'], List.getElem?_eq_getElem lq'⟩
        clear lm' lq'
        obtain ⟨ba, oa, hpa, hba, rdA⟩ := hp.rd2 hx
        obtain ⟨bb, ob, hpb, hbb, rdB⟩ := hq.rd2 hy
        subst hpa hpb
        have hxy := BD.out x y (at_mem (List.getElem?_zip_eq_some.2 ⟨hx, hy⟩ : (m.zip q)[n']? = some (x, y)))
        have nx := NM.out x (at_mem hx)
        have ny := NQ.out y (at_mem hy)
        have HZ : Hid ((m.zip q)[n']? = some (x, y)) := Lib.hid (List.getElem?_zip_eq_some.2 ⟨hx, hy⟩)
        clear hx hy hz
        have sA := fun g => (rdA g).1
        have fA := fun g => (rdA g).2
        have sB := fun g => (rdB g).1
        have fB := fun g => (rdB g).2
        clear rdA rdB
        have b1 := dlo_bd (z := (x, y)) nx ny
        have b2 := dhi_bd (z := (x, y)) nx ny
        have cm := fun w => rmul_any (x - y) (x - y) w (by omega) (by omega) (by omega) (by omega)
        unfold Num at nx ny
        obtain ⟨t, ht⟩ : ∃ t, x - y = t := ⟨_, rfl⟩
        have t1 : -16777216 ≤ x - y := by omega
        have t2 : x - y ≤ 16777216 := by omega
        obtain ⟨u1, hu1⟩ : ∃ u, dn ((x - y) * (x - y)) 65536 = u := ⟨_, rfl⟩
        obtain ⟨u2, hu2⟩ : ∃ u, up ((x - y) * (x - y)) 65536 = u := ⟨_, rfl⟩
        have U1 : Hid (dlo (x, y) = u1) := Lib.hid hu1
        have U2 : Hid (dhi (x, y) = u2) := Lib.hid hu2
        rw [U1.out] at b1
        rw [U2.out] at b2
        rw [hu1, hu2] at cm
        have HCM := Lib.hid cm
        have b11 := b1.1
        have b12 := b1.2
        have b21 := b2.1
        have b22 := b2.2
        clear cm hu1 hu2 ht hxy b1 b2
        have i1 : (n' : Int) < k := by omega
        go_wp2_with (fail)
        refine region_quiet' g (by kernel_rfl) (by kernel_rfl) ?_
        repeat (go_big_quiet_step (first | (go_at_call 58; exact qs (HCM.out _))))
        refine wpQuiet_nil ?_
        rintro _ ⟨g', rfl⟩
        go_wp2_with (fail)
        go_roundw
        case rel =>
          refine ⟨n' + 1, s1 + u1, s2 + u2, by go_num, by omega, by go_num, by go_num, Lib.hid ?_, Lib.hid ?_, g', rfl⟩
          · rw [List.take_add_one, HZ.out, Option.toList_some, dsum_snoc, H1.out, U1.out]
          · rw [List.take_add_one, HZ.out, Option.toList_some, dsum_snoc, H2.out, U2.out]
        case measure => simp [intOf]; omega
      · obtain rfl : n' = k := by omega
        have e1 : decide (dl ≤ s2) = true := by
          have := E1.out
          rw [H2.out, List.take_of_length_le (by rw [LZ.out]; omega)]
          exact this
        have e2 : decide (s1 ≤ dh) = true := by
          have := E2.out
          rw [H1.out, List.take_of_length_le (by rw [LZ.out]; omega)]
          exact this
        have f0 := F9_0 g
        have f1 := F9_1 g
        go_wp2_with (fail)
        go_ret
        exact ⟨rfl, below_then hT9 g.h⟩
theorem dist (w : World) (vA vB vC p0 p1 : Value) (n : Int) (la lb lc : List (Int × Int)) (f0 f1 : List Int) (hA : Bx w vA la ∧ I64 la) (hB : Bx w vB lb ∧ I64 lb) (hC : Bx w vC lc ∧ I64 lc) (hn : 0 ≤ n ∧ n < 256) (h0 : Us w p0 f0 ∧ U16 f0) (h1 : Us w p1 f1 ∧ U16 f1) :
    Calls Try.prog 9 #[.agg #[vA, vB, vC, .int .u8 n, p0, p1]] w fun e w' => e = .returned (.bool true) ∧ Below w.heap.size w w' :=
  dist_walk vA vB vC p0 p1 la lb lc f0 f1 n w hA.1 hB.1 hC.1 hA.2 hB.2 hC.2 hn.1 hn.2 h0.1 h0.2 h1.1 h1.2
end Go.Proofs.Ytpepgheocemjdaa
