/-
  The reference's AtCorner, ValueAt, HasValue.
-/
import Derived.Test.YtbfhmbadgbackaaGreatYe
import Derived.Test.YtbfhmbadgbackaaGreatR1
namespace Go.Proofs.YtbfhmbadgbackaaGreat
open Go.ChangeShapes Go.WideShapes Go.ChangeAt Go.RowKit
set_option linter.unusedVariables false
set_option linter.unusedSimpArgs false
set_option maxRecDepth 100000

attribute [local irreducible] Calls
def pmC (s e : List Int) : Nat → Int
  | 0 => 1
  | j + 1 => pmC s e j * cnr s j ^ (e.getD j 0).toNat
def cvT (s : List Int) (t : Tm) : Int := t.1 * pmC s t.2 6
def cvS (s : List Int) (l : List Tm) : Int := (l.map (cvT s)).sum
theorem cvS_snoc {s : List Int} {l : List Tm} {k : Nat} {x : Tm} (hx : l[k]? = some x) : cvS s (l.take (k + 1)) = cvS s (l.take k) + cvT s x := by
  unfold cvS
  rw [List.take_add_one, hx, List.map_append, List.sum_append]
  simp
theorem one_pow {v : Int} (h : -1 ≤ v ∧ v ≤ 1) : ∀ n : Nat, -1 ≤ v ^ n ∧ v ^ n ≤ 1
  | 0 => by simp
  | n + 1 => by
    have := one_pow h n
    rw [Int.pow_succ]
    rcases (show v = -1 ∨ v = 0 ∨ v = 1 by omega) with rfl | rfl | rfl <;> omega
theorem one_mul1 {a b : Int} (h : -1 ≤ a ∧ a ≤ 1) (k : -1 ≤ b ∧ b ≤ 1) : -1 ≤ a * b ∧ a * b ≤ 1 := by
  rcases (show a = -1 ∨ a = 0 ∨ a = 1 by omega) with rfl | rfl | rfl <;> omega
theorem pmC_one (s e : List Int) : ∀ j, -1 ≤ pmC s e j ∧ pmC s e j ≤ 1
  | 0 => by unfold pmC; omega
  | j + 1 => by unfold pmC; exact one_mul1 (pmC_one s e j) (one_pow (cnr_bd s j) _)
theorem small_mul {c v B : Int} (hc : -B ≤ c ∧ c ≤ B) (hv : -1 ≤ v ∧ v ≤ 1) : -B ≤ c * v ∧ c * v ≤ B := by
  rcases (show v = -1 ∨ v = 0 ∨ v = 1 by omega) with rfl | rfl | rfl <;> omega
theorem cvT_bd (s : List Int) {t : Tm} (h : Num t.1) : -2147483648 ≤ cvT s t ∧ cvT s t ≤ 2147483648 := by
  unfold Num at h
  exact small_mul (by omega) (pmC_one s t.2 6)
theorem cvS_bd (s : List Int) : ∀ (l : List Tm), (∀ t ∈ l, Num t.1) → -(2147483648 * (l.length : Int)) ≤ cvS s l ∧ cvS s l ≤ 2147483648 * l.length
  | [], _ => by simp [cvS]
  | t :: l, h => by
    have h1 := cvT_bd s (h t (by simp))
    have h2 := cvS_bd s l fun x hx => h x (by simp [hx])
    unfold cvS at *
    rw [List.map_cons, List.sum_cons, List.length_cons]
    push_cast
    omega
set_option maxHeartbeats 16000000 in
theorem atc_ok (u vs : Value) (l : List Tm) (s : List Int) (w : World) (hu : Tx w u l) (hs : S8 w vs s) (hl : ∀ t ∈ l, TV t ∧ Num t.1 ∧ ∀ x ∈ t.2, x ≤ 6) (hb : ∀ x ∈ s, -128 ≤ x ∧ x ≤ 127) (hsm : l.length ≤ 1000) :
    Calls Tryz.prog 87 #[u, vs] w fun e w' => e = .returned (.int .i64 (cvS s l)) ∧ w = w' := by
  obtain ⟨p, c, rfl⟩ := hu.cut
  obtain ⟨hm2, q, d, rfl, hsc⟩ := hs
  unfold maxLen at hm2
  have HU := Lib.hid hu
  have HS := Lib.hid hsc
  have HL := Lib.hid hl
  have HB := Lib.hid hb
  have HSB := Lib.hid (fun k => cvS_bd s (l.take k) fun t ht => (hl t (List.mem_of_mem_take ht)).2.1)
  clear hu hsc hl hb
  go_enter Tryz.func87, Tryz.ntmps87
  go_wp2_with (fail)
  go_loopw [5, 6] (fun o i wr => ∃ k : Nat, o = .int .i64 (cvS s (l.take k)) ∧ i = .int .i64 k ∧ k ≤ l.length ∧ wr = w) (fun _ i _ => l.length - (intOf i).toNat)
  case atStart => exact ⟨0, rfl, rfl, Nat.zero_le _, rfl⟩
  case round =>
    obtain ⟨k, rfl, rfl, hk, rfl⟩ := hrel
    by_cases hlt : k < l.length
    · have i1 : (k : Int) < l.length := by omega
      obtain ⟨t, hx⟩ : ∃ t, l[k]? = some t := ⟨_, List.getElem?_eq_getElem hlt⟩
      have htv := HL.out t (List.mem_of_getElem? hx)
      have hsn := cvS_snoc (s := s) hx
      have hob := HSB.out k
      rw [List.length_take] at hob
      have hcb := cvT_bd s htv.2.1
      obtain ⟨ka, e⟩ := t
      obtain ⟨b, o, hp, hbb, rd⟩ := HU.out.rd hx
      subst hp
      have hn := htv.2.1
      unfold Num at hn
      dsimp only at hn
      have f0 := rd ⟨wr, Below.refl _ _⟩ 0 (.int .i64 ka) rfl
      dsimp only at f0
      rw [Nat.add_zero] at f0
      have HRD := Lib.hid rd
      have HTV := Lib.hid htv
      have HSN := Lib.hid hsn
      obtain ⟨O, hO⟩ : ∃ O, cvS s (l.take k) = O := ⟨_, rfl⟩
      rw [hO] at hob
      have HOO := Lib.hid hO
      rw [hO]
      obtain ⟨Z, hZ⟩ : ∃ Z, cvT s (ka, e) = Z := ⟨_, rfl⟩
      rw [hZ] at hcb
      have HZZ := Lib.hid hZ
      have Wo : IntKind.i64.wrap (O + Z) = O + Z := wrap_i64 _ (by omega) (by omega)
      clear rd htv hsn hx hO hZ
      go_wp2_with (fail)
      go_loopw [7, 8] (fun c j wr' => ∃ jj : Nat, c = .int .i64 (ka * pmC s e jj) ∧ j = .int .i64 jj ∧ jj ≤ 6 ∧ wr' = wr) (fun _ j _ => 6 - (intOf j).toNat)
      case atStart => exact ⟨0, by rw [show pmC s e 0 = 1 from rfl, Int.mul_one], rfl, Nat.zero_le _, rfl⟩
      case round =>
        obtain ⟨jj, rfl, rfl, hj, rfl⟩ := hrel
        by_cases hjl : jj < 6
        · have i2 : (jj : Int) < 6 := by omega
          obtain ⟨x, hy⟩ : ∃ x, e[jj]? = some x := ⟨_, List.getElem?_eq_getElem (by rw [HTV.out.1.1.1]; exact hjl)⟩
          have hxb := HTV.out.1.1.2 x (List.mem_of_getElem? hy)
          have hx6 := HTV.out.2.2 x (List.mem_of_getElem? hy)
          obtain ⟨nx, rfl⟩ : ∃ n : Nat, x = n := ⟨x.toNat, by omega⟩
          have he : (encT (ka, e))[jj + 1]? = some (.int .u8 (nx : Int)) := by simp [encT, hy]
          have cx := HRD.out ⟨wr, Below.refl _ _⟩ (jj + 1) _ he
          rw [show o + k * 7 + (jj + 1) = o + k * 7 + 1 + jj by omega] at cx
          dsimp only at cx
          have hpm : pmC s e (jj + 1) = pmC s e jj * cnr s jj ^ nx := by
            show pmC s e jj * _ = _
            rw [List.getD_eq_getElem?_getD, hy]
            rfl
          have hcv := cnr_bd s jj
          have hC := small_mul (c := ka) (B := 2147483648) (by omega) (pmC_one s e jj)
          obtain ⟨C, hCC⟩ : ∃ C, ka * pmC s e jj = C := ⟨_, rfl⟩
          have HPM : Hid (ka * pmC s e (jj + 1) = C * cnr s jj ^ nx) := Lib.hid (by rw [hpm, ← Int.mul_assoc, hCC])
          rw [hCC] at hC ⊢
          obtain ⟨v, hv⟩ : ∃ v, cnr s jj = v := ⟨_, rfl⟩
          rw [hv] at hcv HPM
          clear he hpm hCC hy hxb
          by_cases hjs : jj < s.length
          · have i3 : (jj : Int) < s.length := by omega
            obtain ⟨y, hy⟩ : ∃ y, s[jj]? = some y := ⟨_, List.getElem?_eq_getElem hjs⟩
            have hyb := HB.out y (List.mem_of_getElem? hy)
            obtain ⟨bs, os, rfl, hbs, hcell⟩ := HS.out jj y hy
            have Wy : IntKind.i64.wrap y = y := wrap_i64 _ (by omega) (by omega)
            have Ty : y.tmod 2 = v := by rw [← hv]; simp [cnr, hy]
            clear hy hyb hv
            go_wp2_with (fail)
            go_loopw [7, 10] (fun c n wr'' => ∃ q : Nat, c = .int .i64 (C * v ^ q) ∧ n = .int .u8 q ∧ q ≤ nx ∧ wr'' = wr) (fun _ n _ => nx - (intOf n).toNat)
            case atStart => exact ⟨0, by rw [Int.pow_zero, Int.mul_one], rfl, Nat.zero_le _, rfl⟩
            case round =>
              obtain ⟨z, rfl, rfl, hz, rfl⟩ := hrel
              by_cases hzl : z < nx
              · have j1 : (z : Int) < nx := by omega
                have j2 : (z : Int) < 8 := by omega
                have hb1 := small_mul (c := C) (B := 2147483648) hC (one_pow hcv z)
                have hb2 := small_mul (c := C) (B := 2147483648) hC (one_pow hcv (z + 1))
                have hps : C * v ^ z * v = C * v ^ (z + 1) := by rw [Int.pow_succ, Int.mul_assoc]
                obtain ⟨c1, hc1⟩ : ∃ c, C * v ^ z = c := ⟨_, rfl⟩
                obtain ⟨c2, hc2⟩ : ∃ c, C * v ^ (z + 1) = c := ⟨_, rfl⟩
                rw [hc1] at hb1 hps
                rw [hc2] at hb2 hps
                rw [hc1]
                have Wc : IntKind.i64.wrap (c1 * v) = c2 := by rw [hps]; exact wrap_i64 _ (by omega) (by omega)
                have Wz : IntKind.u8.wrap ((z : Int) + 1) = (z : Int) + 1 := by rw [wrap_u8 _ (by omega)]; omega
                have HC2 := Lib.hid hc2
                clear hps hb1 hb2 hc1 hc2
                go_wp2_with (fail)
                exact ⟨⟨z + 1, by rw [HC2.out], by go_num, by omega, by first | rfl | trivial⟩, by simp [intOf]; omega⟩
              · obtain rfl : z = nx := by omega
                have j1 : ¬ (z : Int) < z := by omega
                go_wp2_with (fail)
                exact ⟨⟨jj + 1, by rw [HPM.out], by go_num, by omega, by first | rfl | trivial⟩, by simp [intOf]; omega⟩
          · have i3 : ¬ (jj : Int) < s.length := by omega
            obtain rfl : v = 0 := by rw [← hv]; simp [cnr, List.getElem?_eq_none (Nat.le_of_not_lt hjs)]
            clear hv
            go_wp2_with (fail)
            go_loopw [7, 10] (fun c n wr'' => ∃ q : Nat, c = .int .i64 (C * 0 ^ q) ∧ n = .int .u8 q ∧ q ≤ nx ∧ wr'' = wr) (fun _ n _ => nx - (intOf n).toNat)
            case atStart => exact ⟨0, by rw [Int.pow_zero, Int.mul_one], rfl, Nat.zero_le _, rfl⟩
            case round =>
              obtain ⟨z, rfl, rfl, hz, rfl⟩ := hrel
              by_cases hzl : z < nx
              · have j1 : (z : Int) < nx := by omega
                have j2 : (z : Int) < 8 := by omega
                have hb1 := small_mul (c := C) (B := 2147483648) hC (one_pow hcv z)
                have hb2 := small_mul (c := C) (B := 2147483648) hC (one_pow hcv (z + 1))
                have hps : C * 0 ^ z * 0 = C * 0 ^ (z + 1) := by rw [Int.pow_succ, Int.mul_assoc]
                obtain ⟨c1, hc1⟩ : ∃ c, C * 0 ^ z = c := ⟨_, rfl⟩
                obtain ⟨c2, hc2⟩ : ∃ c, C * 0 ^ (z + 1) = c := ⟨_, rfl⟩
                rw [hc1] at hb1 hps
                rw [hc2] at hb2 hps
                rw [hc1]
                have Wc : IntKind.i64.wrap (c1 * 0) = c2 := by rw [hps]; exact wrap_i64 _ (by omega) (by omega)
                have Wz : IntKind.u8.wrap ((z : Int) + 1) = (z : Int) + 1 := by rw [wrap_u8 _ (by omega)]; omega
                have HC2 := Lib.hid hc2
                clear hps hb1 hb2 hc1 hc2
                go_wp2_with (fail)
                exact ⟨⟨z + 1, by rw [HC2.out, show c2 = 0 by rw [← HC2.out, Int.pow_succ, Int.mul_zero, Int.mul_zero]], by go_num, by omega, by first | rfl | trivial⟩, by simp [intOf]; omega⟩
              · obtain rfl : z = nx := by omega
                have j1 : ¬ (z : Int) < z := by omega
                go_wp2_with (fail)
                exact ⟨⟨jj + 1, by rw [HPM.out], by go_num, by omega, by first | rfl | trivial⟩, by simp [intOf]; omega⟩
        · obtain rfl : jj = 6 := by omega
          have i2 : ¬ ((6 : Nat) : Int) < 6 := by omega
          rw [show ka * pmC s e 6 = Z from HZZ.out]
          go_wp2_with (fail)
          exact ⟨⟨k + 1, by rw [HSN.out, HOO.out, HZZ.out], by go_num, by omega, by first | rfl | trivial⟩, by simp [intOf]; omega⟩
    · obtain rfl : k = l.length := by omega
      have i1 : ¬ (l.length : Int) < l.length := by omega
      rw [List.take_length]
      go_wp2_with (fail)
      go_ret
      exact ⟨rfl, rfl⟩

theorem atc_b (u vs : Value) (l : List Tm) (s : List Int) (w : World) (hu : Tx w u l) (hs : S8 w vs s) (hl : ∀ t ∈ l, TV t ∧ Num t.1 ∧ ∀ x ∈ t.2, x ≤ 6) (hb : ∀ x ∈ s, -128 ≤ x ∧ x ≤ 127) (hsm : l.length ≤ 1000) :
    Calls Tryz.prog 87 #[u, vs] w fun e w' => e = .returned (.int .i64 (cvS s l)) ∧ Below w.heap.size w w' := by
  refine (atc_ok u vs l s w hu hs hl hb hsm).mono ?_
  rintro e w' ⟨rfl, rfl⟩
  exact ⟨rfl, Below.refl _ _⟩
/-- A value of a model at a corner. -/
def valM (s : List Int) (a : Mo) (x : Int) : Int := cvS s a.1 + a.2.1 + (a.2.2 - a.2.1) * x / 65535
theorem frac_bd {d x : Int} (hd : 0 ≤ d) (hx : 0 ≤ x ∧ x ≤ 65535) : 0 ≤ d * x ∧ d * x ≤ d * 65535 := ⟨Int.mul_nonneg hd hx.1, Int.mul_le_mul_of_nonneg_left hx.2 hd⟩
set_option maxHeartbeats 8000000 in
theorem valat_ok (u vs : Value) (l : List Tm) (s : List Int) (a0 a1 x : Int) (w : World) (hu : Tx w u l) (hs : S8 w vs s) (hl : ∀ t ∈ l, TV t ∧ Num t.1 ∧ ∀ x ∈ t.2, x ≤ 6) (hb : ∀ x ∈ s, -128 ≤ x ∧ x ≤ 127) (hsm : l.length ≤ 100) (h01 : a0 ≤ a1) (h0 : -2147483648 ≤ a0) (h1 : a1 ≤ 2147483648) (hx : 0 ≤ x ∧ x ≤ 65535) :
    Calls Tryz.prog 40 #[.agg #[u, .int .i64 a0, .int .i64 a1], vs, .int .u16 x] w fun e w' => e = .returned (.int .i64 (valM s (l, (a0, a1)) x)) ∧ Below w.heap.size w w' := by
  obtain ⟨p, c, rfl⟩ := hu.cut
  obtain ⟨ps, ds, rfl⟩ : ∃ p c, vs = .slice p s.length c := ⟨_, _, hs.2.choose_spec.choose_spec.1⟩
  have hcb := cvS_bd s l fun t ht => (hl t ht).2.1
  have KA := Lib.hid (fun w h1 h2 => atc_b (.slice p l.length c) (.slice ps s.length ds) l s w h1 h2 hl hb (by omega))
  have HU := Lib.hid hu
  have HS := Lib.hid hs
  have hf := frac_bd (d := a1 - a0) (by omega) hx
  unfold valM
  dsimp only
  obtain ⟨C, hC⟩ : ∃ C, cvS s l = C := ⟨_, rfl⟩
  rw [hC] at hcb KA ⊢
  obtain ⟨D, hD⟩ : ∃ D, a1 - a0 = D := ⟨_, rfl⟩
  rw [hD] at hf ⊢
  obtain ⟨E, hE⟩ : ∃ E, D * x = E := ⟨_, rfl⟩
  rw [hE] at hf ⊢
  have W1 : IntKind.i64.wrap (C + a0) = C + a0 := wrap_i64 _ (by omega) (by omega)
  have W2 : IntKind.i64.wrap (a1 - a0) = D := by rw [hD]; exact wrap_i64 _ (by omega) (by omega)
  have W3 : IntKind.i64.wrap (D * x) = E := by rw [hE]; exact wrap_i64 _ (by omega) (by omega)
  have W4 : IntKind.i64.wrap x = x := wrap_i64 _ (by omega) (by omega)
  have T5 : E.tdiv 65535 = E / 65535 := Int.tdiv_eq_ediv_of_nonneg hf.1
  have W5 : IntKind.i64.wrap (E / 65535) = E / 65535 := wrap_i64 _ (by omega) (by omega)
  have W6 : IntKind.i64.wrap (C + a0 + E / 65535) = C + a0 + E / 65535 := wrap_i64 _ (by omega) (by omega)
  have W7 : wrap64 x = x := by first | exact wrap_i64 x (by omega) (by omega) | (unfold wrap64; omega)
  have hba : Below w.heap.size w (w.alloc (.cells #[.slice p l.length c, .int .i64 a0, .int .i64 a1] 26)) := (Below.refl _ _).alloc (Nat.le_refl _) _
  have HM := Lib.hid (MoC.new w (.slice p l.length c) a0 a1)
  have HBA := Lib.hid hba
  obtain ⟨F, hF⟩ : ∃ F, E / 65535 = F := ⟨_, rfl⟩
  rw [hF] at T5 W5 W6 ⊢
  clear hu hs hl hb hC hD hE hF hcb hf hba hx
  go_enter Tryz.func40, Tryz.ntmps40
  go_wp2_with (fail)
  generalize hW0 : World.alloc w _ = W0 at *
  clear hW0
  have k0 := fun g : Grown W0 => (HM.out.grow g.h).c0
  have k1 := fun g : Grown W0 => (HM.out.grow g.h).c1
  have k2 := fun g : Grown W0 => (HM.out.grow g.h).c2
  dsimp only at k0 k1 k2
  refine region_pred (lk [(7, fun z_ _ => z_ = .pointer (some ⟨w.heap.size, 0, none⟩)), (8, fun z_ _ => z_ = (.slice p l.length c)), (9, fun z_ _ => z_ = (.slice ps s.length ds)), (10, fun z_ _ => z_ = .int .i64 C), (11, fun z_ _ => z_ = .pointer (some ⟨w.heap.size, 1, none⟩)), (12, fun z_ _ => z_ = .pointer (some ⟨w.heap.size, 1, none⟩)), (13, fun z_ _ => z_ = .int .i64 a0), (14, fun z_ _ => z_ = .int .i64 (C + a0)), (15, fun z_ _ => z_ = .pointer (some ⟨w.heap.size, 1, none⟩)), (16, fun z_ _ => z_ = .pointer (some ⟨w.heap.size, 2, none⟩)), (17, fun z_ _ => z_ = .int .i64 a1), (18, fun z_ _ => z_ = .pointer (some ⟨w.heap.size, 1, none⟩)), (19, fun z_ _ => z_ = .pointer (some ⟨w.heap.size, 1, none⟩)), (20, fun z_ _ => z_ = .int .i64 a0), (21, fun z_ _ => z_ = .int .i64 D), (22, fun z_ _ => z_ = .int .u16 x), (23, fun z_ _ => z_ = .int .i64 x), (24, fun z_ _ => z_ = .int .i64 E), (25, fun z_ _ => z_ = .int .i64 F), (26, fun z_ _ => z_ = .int .i64 (C + a0 + F)), (6, fun z_ _ => z_ = .int .i64 (C + a0 + F))]) (by kernel_rfl) (by kernel_rfl) (lk_steady _ ⟨steady_eq _, steady_eq _, steady_eq _, steady_eq _, steady_eq _, steady_eq _, steady_eq _, steady_eq _, steady_eq _, steady_eq _, steady_eq _, steady_eq _, steady_eq _, steady_eq _, steady_eq _, steady_eq _, steady_eq _, steady_eq _, steady_eq _, steady_eq _, steady_eq _, trivial⟩) ?_ ?_
  · refine ⟨?_, ?_, ?_, ?_, ?_, ?_, ?_, ?_, ?_, ?_, ?_, ?_, ?_, ?_, ?_, ?_, ?_, ?_, ?_, ?_, ?_, trivial⟩
    · refine ob_plain [3] rfl rfl fun aa g h => ?_
      have yy0 := seen_out (v := .pointer (some ⟨w.heap.size, 0, none⟩)) rfl rfl h.1
      have ee0 := getD_of yy0
      exact tupon_value (v := .pointer (some ⟨w.heap.size, 0, none⟩)) (by simp [go_sem, ee0, yy0]) (Below.refl _ _) rfl
    · refine ob_plain [7] rfl rfl fun aa g h => ?_
      obtain ⟨_, yy0, rfl⟩ := seen_in rfl h.1
      have ee0 := getD_of yy0
      exact tupon_value (v := (.slice p l.length c)) (by simp [go_sem, ee0, yy0, k0 g]) (Below.refl _ _) rfl
    · refine ob_plain [1] rfl rfl fun aa g h => ?_
      have yy0 := seen_out (v := (.slice ps s.length ds)) rfl rfl h.1
      have ee0 := getD_of yy0
      exact tupon_value (v := (.slice ps s.length ds)) (by simp [go_sem, ee0, yy0]) (Below.refl _ _) rfl
    · refine ob_plain [8, 9] rfl rfl fun aa g h => ?_
      obtain ⟨_, yy0, rfl⟩ := seen_in rfl h.1
      have ee0 := getD_of yy0
      obtain ⟨_, yy1, rfl⟩ := seen_in rfl h.2.1
      have ee1 := getD_of yy1
      refine tupon_enter (f := 87) (args := #[(.slice p l.length c), (.slice ps s.length ds)]) (by simp [go_sem, ee0, yy0, ee1, yy1]) rfl ?_
      exact (KA.out g.w (HU.out.grow (below_then HBA.out g.h)) (HS.out.grow (below_then HBA.out g.h))).mono fun e w' ⟨he, hB⟩ => ⟨_, he, hB, rfl⟩
    · refine ob_plain [3] rfl rfl fun aa g h => ?_
      have yy0 := seen_out (v := .pointer (some ⟨w.heap.size, 0, none⟩)) rfl rfl h.1
      have ee0 := getD_of yy0
      exact tupon_value (v := .pointer (some ⟨w.heap.size, 1, none⟩)) (by simp [go_sem, ee0, yy0]) (Below.refl _ _) rfl
    · refine ob_plain [11] rfl rfl fun aa g h => ?_
      obtain ⟨_, yy0, rfl⟩ := seen_in rfl h.1
      have ee0 := getD_of yy0
      exact tupon_value (v := .pointer (some ⟨w.heap.size, 1, none⟩)) (by simp [go_sem, ee0, yy0]) (Below.refl _ _) rfl
    · refine ob_plain [12] rfl rfl fun aa g h => ?_
      obtain ⟨_, yy0, rfl⟩ := seen_in rfl h.1
      have ee0 := getD_of yy0
      exact tupon_value (v := .int .i64 a0) (by simp [go_sem, ee0, yy0, k1 g]) (Below.refl _ _) rfl
    · refine ob_plain [10, 13] rfl rfl fun aa g h => ?_
      obtain ⟨_, yy0, rfl⟩ := seen_in rfl h.1
      have ee0 := getD_of yy0
      obtain ⟨_, yy1, rfl⟩ := seen_in rfl h.2.1
      have ee1 := getD_of yy1
      exact tupon_value (v := .int .i64 (C + a0)) (by simp [go_sem, ee0, yy0, ee1, yy1, W1]) (Below.refl _ _) rfl
    · refine ob_plain [3] rfl rfl fun aa g h => ?_
      have yy0 := seen_out (v := .pointer (some ⟨w.heap.size, 0, none⟩)) rfl rfl h.1
      have ee0 := getD_of yy0
      exact tupon_value (v := .pointer (some ⟨w.heap.size, 1, none⟩)) (by simp [go_sem, ee0, yy0]) (Below.refl _ _) rfl
    · refine ob_plain [15] rfl rfl fun aa g h => ?_
      obtain ⟨_, yy0, rfl⟩ := seen_in rfl h.1
      have ee0 := getD_of yy0
      exact tupon_value (v := .pointer (some ⟨w.heap.size, 2, none⟩)) (by simp [go_sem, ee0, yy0]) (Below.refl _ _) rfl
    · refine ob_plain [16] rfl rfl fun aa g h => ?_
      obtain ⟨_, yy0, rfl⟩ := seen_in rfl h.1
      have ee0 := getD_of yy0
      exact tupon_value (v := .int .i64 a1) (by simp [go_sem, ee0, yy0, k2 g]) (Below.refl _ _) rfl
    · refine ob_plain [3] rfl rfl fun aa g h => ?_
      have yy0 := seen_out (v := .pointer (some ⟨w.heap.size, 0, none⟩)) rfl rfl h.1
      have ee0 := getD_of yy0
      exact tupon_value (v := .pointer (some ⟨w.heap.size, 1, none⟩)) (by simp [go_sem, ee0, yy0]) (Below.refl _ _) rfl
    · refine ob_plain [18] rfl rfl fun aa g h => ?_
      obtain ⟨_, yy0, rfl⟩ := seen_in rfl h.1
      have ee0 := getD_of yy0
      exact tupon_value (v := .pointer (some ⟨w.heap.size, 1, none⟩)) (by simp [go_sem, ee0, yy0]) (Below.refl _ _) rfl
    · refine ob_plain [19] rfl rfl fun aa g h => ?_
      obtain ⟨_, yy0, rfl⟩ := seen_in rfl h.1
      have ee0 := getD_of yy0
      exact tupon_value (v := .int .i64 a0) (by simp [go_sem, ee0, yy0, k1 g]) (Below.refl _ _) rfl
    · refine ob_plain [17, 20] rfl rfl fun aa g h => ?_
      obtain ⟨_, yy0, rfl⟩ := seen_in rfl h.1
      have ee0 := getD_of yy0
      obtain ⟨_, yy1, rfl⟩ := seen_in rfl h.2.1
      have ee1 := getD_of yy1
      exact tupon_value (v := .int .i64 D) (by simp [go_sem, ee0, yy0, ee1, yy1, W2]) (Below.refl _ _) rfl
    · refine ob_plain [2] rfl rfl fun aa g h => ?_
      have yy0 := seen_out (v := .int .u16 x) rfl rfl h.1
      have ee0 := getD_of yy0
      exact tupon_value (v := .int .u16 x) (by simp [go_sem, ee0, yy0]) (Below.refl _ _) rfl
    · refine ob_plain [22] rfl rfl fun aa g h => ?_
      obtain ⟨_, yy0, rfl⟩ := seen_in rfl h.1
      have ee0 := getD_of yy0
      exact tupon_value (v := .int .i64 x) (by simp [go_sem, ee0, yy0, W4, W7]) (Below.refl _ _) rfl
    · refine ob_plain [21, 23] rfl rfl fun aa g h => ?_
      obtain ⟨_, yy0, rfl⟩ := seen_in rfl h.1
      have ee0 := getD_of yy0
      obtain ⟨_, yy1, rfl⟩ := seen_in rfl h.2.1
      have ee1 := getD_of yy1
      exact tupon_value (v := .int .i64 E) (by simp [go_sem, ee0, yy0, ee1, yy1, W3]) (Below.refl _ _) rfl
    · refine ob_plain [24] rfl rfl fun aa g h => ?_
      obtain ⟨_, yy0, rfl⟩ := seen_in rfl h.1
      have ee0 := getD_of yy0
      exact tupon_value (v := .int .i64 F) (by simp [go_sem, ee0, yy0, T5, W5]) (Below.refl _ _) rfl
    · refine ob_plain [14, 25] rfl rfl fun aa g h => ?_
      obtain ⟨_, yy0, rfl⟩ := seen_in rfl h.1
      have ee0 := getD_of yy0
      obtain ⟨_, yy1, rfl⟩ := seen_in rfl h.2.1
      have ee1 := getD_of yy1
      exact tupon_value (v := .int .i64 (C + a0 + F)) (by simp [go_sem, ee0, yy0, ee1, yy1, W6]) (Below.refl _ _) rfl
    · refine ob_plain [26] rfl rfl fun aa g h => ?_
      obtain ⟨_, yy0, rfl⟩ := seen_in rfl h.1
      have ee0 := getD_of yy0
      exact tupon_value (v := .int .i64 (C + a0 + F)) (by simp [go_sem, ee0, yy0]) (Below.refl _ _) rfl
  rintro w5 hB5 _ rfl _ rfl _ rfl _ rfl _ rfl _ rfl _ rfl _ rfl _ rfl _ rfl _ rfl _ rfl _ rfl _ rfl _ rfl _ rfl _ rfl _ rfl _ rfl _ rfl _ rfl
  simp only [Act.put, List.setIfInBounds_toArray, List.set_cons_succ, List.set_cons_zero, List.filterMap_nil, finP]
  go_wp2_with (fail)
  go_ret
  exact ⟨rfl, below_then HBA.out hB5⟩
set_option maxHeartbeats 8000000 in
theorem hv_ok (u vs : Value) (l : List Tm) (s : List Int) (a b x : Int) (H : Bool) (w : World) (hu : Tx w u l) (hs : S8 w vs s) (hl : ∀ t ∈ l, TV t ∧ Num t.1 ∧ ∀ x ∈ t.2, x ≤ 6) (hb : ∀ x ∈ s, -128 ≤ x ∧ x ≤ 127) (hsm : l.length ≤ 100) (hbd : -2147483648 ≤ a ∧ a ≤ 2147483648 ∧ -2147483648 ≤ b ∧ b ≤ 2147483648) (hH : H = true ↔ Ent a b ∨ (cvS s l + a) * 65536 ≤ x ∧ x ≤ (cvS s l + b) * 65536) :
    Calls Tryz.prog 42 #[.agg #[u, .int .i64 a, .int .i64 b], vs, .int .i64 x] w fun e w' => e = .returned (.bool H) ∧ Below w.heap.size w w' := by
  obtain ⟨p, c, rfl⟩ := hu.cut
  have hcb := cvS_bd s l fun t ht => (hl t ht).2.1
  have KA := Lib.hid (atc_ok (.slice p l.length c) vs l s (w.alloc (.cells #[.slice p l.length c, .int .i64 a, .int .i64 b] 26)) (hu.grow ((Below.refl _ _).alloc (Nat.le_refl _) _)) (hs.grow ((Below.refl _ _).alloc (Nat.le_refl _) _)) hl hb (by omega))
  obtain ⟨C, hC⟩ : ∃ C, cvS s l = C := ⟨_, rfl⟩
  rw [hC] at hcb KA hH
  have W1 : IntKind.i64.wrap (C + a) = C + a := wrap_i64 _ (by omega) (by omega)
  have W2 : IntKind.i64.wrap (C + b) = C + b := wrap_i64 _ (by omega) (by omega)
  have W3 : IntKind.i64.wrap ((C + a) * 65536) = (C + a) * 65536 := wrap_i64 _ (by omega) (by omega)
  have W4 : IntKind.i64.wrap ((C + b) * 65536) = (C + b) * 65536 := wrap_i64 _ (by omega) (by omega)
  obtain ⟨P, hP⟩ : ∃ P, (C + a) * 65536 = P := ⟨_, rfl⟩
  obtain ⟨Q, hQ⟩ : ∃ P, (C + b) * 65536 = P := ⟨_, rfl⟩
  rw [hP] at W3 hH
  rw [hQ] at W4 hH
  have V3 : wrap64 ((C + a) * 65536) = P := by unfold wrap64; omega
  have V4 : wrap64 ((C + b) * 65536) = Q := by unfold wrap64; omega
  have hM := Lib.hid (MoC.new w (.slice p l.length c) a b)
  have HBA : Hid (Below w.heap.size w (w.alloc (.cells #[.slice p l.length c, .int .i64 a, .int .i64 b] 26))) := Lib.hid ((Below.refl _ _).alloc (Nat.le_refl _) _)
  have HH := Lib.hid hH
  clear hu hs hl hb hC hcb hP hQ hH
  go_enter Tryz.func42, Tryz.ntmps42
  go_wp2_with (fail)
  refine KA.out.mono ?_
  rintro e w1 ⟨rfl, rfl⟩
  have q1 := hM.out.c1
  have q2 := hM.out.c2
  dsimp only at q1 q2
  by_cases hE : Ent a b
  · have hT : H = true := HH.out.2 (.inl hE)
    subst hT
    obtain ⟨rfl, rfl⟩ := hE
    go_wp2_with (fail)
    refine (r2ent_yes _).mono ?_
    rintro e w2 ⟨rfl, hB2⟩
    clear q1 q2
    go_wp2_with (fail)
    go_ret
    exact ⟨rfl, below_then HBA.out hB2⟩
  · have KE := Lib.hid (fun w => r2ent_no a b w hE)
    have hHH : H = true ↔ P ≤ x ∧ x ≤ Q := by
      rw [HH.out]
      exact ⟨fun h => h.resolve_left hE, .inr⟩
    clear hE
    go_wp2_with (fail)
    refine (KE.out _).mono ?_
    rintro e w2 ⟨rfl, hB2⟩
    have hM2 := hM.out.grow hB2
    clear q1 q2
    have q1 := hM2.c1
    have q2 := hM2.c2
    dsimp only at q1 q2
    by_cases h1 : P ≤ x
    · by_cases h2 : x ≤ Q
      · have hT : H = true := hHH.2 ⟨h1, h2⟩
        subst hT
        clear hHH
        have D1 : decide (P ≤ x) = true := by simpa using h1
        have D2 : decide (x ≤ Q) = true := by simpa using h2
        go_wp2_with (fail)
        go_ret
        exact ⟨by simp [D1, D2, V3, V4, h1, h2], below_then HBA.out hB2⟩
      · have hT : H = false := by
          cases H with
          | false => rfl
          | true => exact absurd (hHH.1 rfl).2 h2
        subst hT
        clear hHH
        have D1 : decide (P ≤ x) = true := by simpa using h1
        have D2 : decide (x ≤ Q) = false := by simpa using h2
        go_wp2_with (fail)
        go_ret
        exact ⟨by simp [D1, D2, V3, V4, h1, h2], below_then HBA.out hB2⟩
    · have hT : H = false := by
        cases H with
        | false => rfl
        | true => exact absurd (hHH.1 rfl).1 h1
      subst hT
      clear hHH
      have D1 : decide (P ≤ x) = false := by simpa using h1
      go_wp2_with (fail)
      go_ret
      exact ⟨by simp [D1, V3, V4, h1], below_then HBA.out hB2⟩
theorem r2ent6 (a b : Int) (E : Bool) (w : World) (h : E = true ↔ Ent a b) :
    Calls Tryz.prog 39 #[.agg #[.int .i64 a, .int .i64 b]] w fun e w' => e = .returned (.bool E) ∧ Below w.heap.size w w' := by
  cases E with
  | false => exact r2ent_no a b w (fun q => Bool.noConfusion (h.2 q))
  | true =>
    obtain ⟨rfl, rfl⟩ := h.1 rfl
    exact r2ent_yes w
set_option maxHeartbeats 8000000 in
theorem rvalid6_ok (u : Value) (a0 a1 : Int) (l : List Tm) (R : Bool) (w : World) (hu : Tx w u l) (hl : ∀ t ∈ l, TV t) (hR : R = true ↔ VP l ∧ VI a0 a1 ∧ (l = [] ∨ ¬ Ent a0 a1)) :
    Calls Tryz.prog 15 #[.agg #[u, .int .i64 a0, .int .i64 a1]] w fun e w' => e = .returned (.bool R) ∧ Below w.heap.size w w' := by
  obtain ⟨pu, cu, rfl⟩ := hu.cut
  have HU := Lib.hid hu
  have HL := Lib.hid hl
  obtain ⟨V, hV⟩ : ∃ V : Bool, V = true ↔ VP l := ⟨vpB l, vpB_iff l⟩
  have KV := Lib.hid (fun w h => r5valid_ok (.slice pu l.length cu) l V w h HL.out hV)
  obtain ⟨I, hI⟩ : ∃ I, decide (VI a0 a1) = I := ⟨_, rfl⟩
  have hII : I = true ↔ VI a0 a1 := by rw [← hI]; simp
  have KI := Lib.hid (fun w => r2valid a0 a1 I w hI)
  obtain ⟨E, hEE⟩ : ∃ E : Bool, E = true ↔ Ent a0 a1 := ⟨decide (Ent a0 a1), by simp⟩
  have KE := Lib.hid (fun w => r2ent6 a0 a1 E w hEE)
  have hRR : R = (V && I && (decide (l.length = 0) || !E)) := by
    rw [Bool.eq_iff_iff, hR]
    simp only [Bool.and_eq_true, Bool.or_eq_true, decide_eq_true_eq, List.length_eq_zero_iff, hV, hII, Bool.not_eq_true', and_assoc]
    have : E = false ↔ ¬ Ent a0 a1 := by rw [← hEE]; simp
    rw [this]
  subst hRR
  have l0 : ((l.length : Int) == 0) = decide (l.length = 0) := by
    by_cases h : l.length = 0
    · rw [h]; rfl
    · have : ¬ (l.length : Int) = 0 := by omega
      simp [h, this]
  obtain ⟨Z, hZ⟩ : ∃ Z, decide (l.length = 0) = Z := ⟨_, rfl⟩
  rw [hZ] at l0
  rw [hZ]
  have HM := Lib.hid (MoC.new w (.slice pu l.length cu) a0 a1)
  have HBA : Hid (Below w.heap.size w (w.alloc (.cells #[.slice pu l.length cu, .int .i64 a0, .int .i64 a1] 26))) := Lib.hid ((Below.refl _ _).alloc (Nat.le_refl _) _)
  clear hu hl hV hEE hI hII hZ hR
  go_enter Tryz.func15, Tryz.ntmps15
  go_wp2_with (fail)
  refine (KV.out _ (HU.out.grow HBA.out)).mono ?_
  rintro e w1 ⟨rfl, hB1⟩
  have hM1 := HM.out.grow hB1
  have hb1 := below_then HBA.out hB1
  have q1 := hM1.c1
  have q2 := hM1.c2
  dsimp only at q1 q2
  cases V with
  | false =>
    go_wp2_with (fail)
    go_ret
    exact ⟨rfl, hb1⟩
  | true =>
    go_wp2_with (fail)
    refine (KI.out _).mono ?_
    rintro e w2 ⟨rfl, hB2⟩
    have hM2 := hM1.grow hB2
    have hb2 := below_then hb1 hB2
    have r0 := hM2.c0
    have r1 := hM2.c1
    have r2 := hM2.c2
    dsimp only at r0 r1 r2
    clear q1 q2 hB2
    cases I with
    | false =>
      go_wp2_with (fail)
      go_ret
      exact ⟨rfl, hb2⟩
    | true =>
      cases Z with
      | true =>
        go_wp2_with (fail)
        go_ret
        exact ⟨rfl, hb2⟩
      | false =>
        go_wp2_with (fail)
        refine (KE.out _).mono ?_
        rintro e w3 ⟨rfl, hB3⟩
        have hb3 := below_then hb2 hB3
        clear r0 r1 r2
        go_wp2_with (fail)
        go_ret
        exact ⟨by cases E <;> rfl, hb3⟩
end Go.Proofs.YtbfhmbadgbackaaGreat
