/-
  The mathematics of Picard images.
-/
import Derived.Test.YtecmgiihacigaaaVt
import Derived.Test.YtecmgiihacigaaaIvMath
namespace Go.Proofs.Ytecmgiihacigaaa
open Go.ChangeShapes Go.WideShapes Go.ChangeAt Go.RowKit
set_option linter.unusedVariables false
set_option linter.unusedSimpArgs false
set_option maxRecDepth 100000
theorem imgP_iso {H H' : Int} {x x' f f' : Int × Int} (hx : VI x.1 x.2) (hx' : VI x'.1 x'.2) (hf : VI f.1 f.2) (hf' : VI f'.1 f'.2) (h0 : 0 ≤ H) (h1 : H ≤ H') (h2 : H' ≤ 1000000) (h : SbI x x') (g : SbI f f') : SbI (imgP H x f) (imgP H' x' f') :=
  opI_iso 7 hx (opI_vi 9 (num_vi h0 (Int.le_trans h1 h2)) hf) hx' (opI_vi 9 (num_vi (Int.le_trans h0 h1) h2) hf') h (opI_iso 9 (num_vi h0 (Int.le_trans h1 h2)) hf (num_vi (Int.le_trans h0 h1) h2) hf' ⟨Int.le_refl _, h1⟩ g)
theorem imgP_sup {H : Int} {x f : Int × Int} (hx : VI x.1 x.2) (hf : VI f.1 f.2) (h0 : 0 ≤ H) (h1 : H ≤ 1000000) : SbI x (imgP H x f) := by
  have hz : SbI (0, 0) (opI 9 (0, H) f) := by
    have hm : SbI (opI 9 (0, 0) f) (opI 9 (0, H) f) := opI_iso 9 (num_vi (Int.le_refl 0) (by decide)) hf (num_vi h0 h1) hf ⟨Int.le_refl _, h0⟩ ⟨Int.le_refl _, Int.le_refl _⟩
    have h0 : SbI (0, 0) (opI 9 (0, 0) f) := by
      show Sb 0 0 (mulLo 0 0 f.1 f.2) (mulHi 0 0 f.1 f.2)
      unfold mulLo mulHi
      by_cases he : Ent 0 0 ∨ Ent f.1 f.2
      · rw [if_pos he, if_pos he]; unfold Sb; omega
      · rw [if_neg he, if_neg he]
        have e1 : mn4 0 0 f.1 f.2 = 0 := by unfold mn4; omega
        have e2 : mx4 0 0 f.1 f.2 = 0 := by unfold mx4; omega
        rw [e1, e2]
        unfold Sb
        decide
    exact ⟨Int.le_trans hm.1 h0.1, Int.le_trans h0.2 hm.2⟩
  have hs : SbI (opI 7 x (0, 0)) (imgP H x f) := opI_iso 7 hx vi_zero hx (opI_vi 9 (num_vi h0 h1) hf) ⟨Int.le_refl _, Int.le_refl _⟩ hz
  have ea := add_zero2 hx
  have e : opI 7 x (0, 0) = x := by
    show (addLo x.1 x.2 0 0, addHi x.1 x.2 0 0) = x
    rw [ea.1, ea.2]
  rwa [e] at hs
theorem outV_sb {V V' : List (Int × Int)} (h : SbL V V') (O : List Int) : SbL (outV V O) (outV V' O) := by
  refine ⟨by rw [out_len, out_len], fun i p q hp hq => ?_⟩
  unfold outV at hp hq
  rw [List.getElem?_map] at hp hq
  cases e : O[i]? with
  | none => rw [e] at hp; cases hp
  | some y =>
    rw [e] at hp hq
    obtain rfl := Option.some.inj hp
    obtain rfl := Option.some.inj hq
    exact sbL_getD h y.toNat
theorem imgL_sb {H H' : Int} {X X' F F' : List (Int × Int)} (hX : SbL X X') (hF : SbL F F') (hl : F.length = X.length) (h0 : 0 ≤ H) (h1 : H ≤ H') (h2 : H' ≤ 1000000) : SbL (imgL H X F) (imgL H' X' F') := by
  refine ⟨by rw [imgL_len hl, imgL_len (by rw [← hX.1, ← hF.1, hl]), hX.1], fun i p q hp hq => ?_⟩
  have hi := (List.getElem?_eq_some_iff.1 hp).1
  rw [imgL_len hl] at hi
  obtain ⟨x, hx⟩ : ∃ x, X[i]? = some x := ⟨_, List.getElem?_eq_getElem hi⟩
  obtain ⟨f, hf⟩ : ∃ x, F[i]? = some x := ⟨_, List.getElem?_eq_getElem (by rw [hl]; exact hi)⟩
  obtain ⟨x', hx'⟩ : ∃ x, X'[i]? = some x := ⟨_, List.getElem?_eq_getElem (by rw [← hX.1]; exact hi)⟩
  obtain ⟨f', hf'⟩ : ∃ x, F'[i]? = some x := ⟨_, List.getElem?_eq_getElem (by rw [← hF.1, hl]; exact hi)⟩
  rw [imgL_at hx hf] at hp
  rw [imgL_at hx' hf'] at hq
  obtain rfl := Option.some.inj hp
  obtain rfl := Option.some.inj hq
  obtain ⟨a1, a2, a3⟩ := hX.2 i _ _ hx hx'
  obtain ⟨b1, b2, b3⟩ := hF.2 i _ _ hf hf'
  exact ⟨imgP_vi a1 b1 h0 (Int.le_trans h1 h2), imgP_vi a2 b2 (Int.le_trans h0 h1) h2, imgP_iso a1 a2 b1 b2 h0 h1 h2 a3 b3⟩
theorem imgT_iso {L : List Is} {O : List Int} {N T H T' H' : Int} {X X' B B' : List (Int × Int)} (htv : tvB N L O = true) (hXN : (X.length : Int) = N) (hX : SbL X X') (hB : SbL B B') (h0 : 0 ≤ H) (h1 : H ≤ H') (h2 : H' ≤ 1000000) (t1 : -1048576 ≤ T') (t2 : T' ≤ T) (t3 : T + H ≤ T' + H') (t4 : T' ≤ 1048576) : SbL (imgT L O T H X B) (imgT L O T' H' X' B') := by
  obtain ⟨_, _, _, hon, hvl, _⟩ := tv_cases htv
  have hv' : VI T' (T' + H') := time_vi t1 t4 (Int.le_trans h0 h1) h2
  have hv : VI T (T + H) := .inr ⟨by unfold Num; omega, by unfold Num; omega, by omega⟩
  exact imgL_sb hX (outV_sb (evL_iso (t := (T, T + H)) (t' := (T', T' + H')) hB hv hv' ⟨t2, t3⟩ hvl) O) (by rw [out_len]; omega) h0 h1 h2
theorem sbL_refl {l : List (Int × Int)} (h : ∀ p ∈ l, VI p.1 p.2) : SbL l l := ⟨rfl, fun i p q hp hq => by rw [hp] at hq; cases hq; exact ⟨h _ (List.mem_of_getElem? hp), h _ (List.mem_of_getElem? hp), Int.le_refl _, Int.le_refl _⟩⟩
theorem sbL_trans {l m n : List (Int × Int)} (h : SbL l m) (k : SbL m n) : SbL l n := by
  refine ⟨h.1.trans k.1, fun i p q hp hq => ?_⟩
  obtain ⟨y, hy⟩ : ∃ y, m[i]? = some y := ⟨_, List.getElem?_eq_getElem (by rw [← h.1]; exact (List.getElem?_eq_some_iff.1 hp).1)⟩
  obtain ⟨a1, a2, a3⟩ := h.2 i p y hp hy
  obtain ⟨b1, b2, b3⟩ := k.2 i y q hy hq
  exact ⟨a1, b2, Int.le_trans b3.1 a3.1, Int.le_trans a3.2 b3.2⟩
theorem sub_of {l m : List (Int × Int)} (h : SbL l m) : subB l m = true := by
  unfold subB
  rw [List.all_eq_true]
  intro z hz
  obtain ⟨i, hi⟩ := List.getElem?_of_mem hz
  rw [List.getElem?_zip_eq_some] at hi
  obtain ⟨_, _, h1, h2⟩ := h.2 i _ _ hi.1 hi.2
  unfold sub1
  rw [decide_eq_true h1, decide_eq_true h2]
  rfl
theorem sb_of {l m : List (Int × Int)} (hl : l.length = m.length) (h1 : ∀ p ∈ l, VI p.1 p.2) (h2 : ∀ p ∈ m, VI p.1 p.2) (h : subB l m = true) : SbL l m := by
  refine ⟨hl, fun i p q hp hq => ⟨h1 _ (List.mem_of_getElem? hp), h2 _ (List.mem_of_getElem? hq), ?_⟩⟩
  unfold subB at h
  have := List.all_eq_true.1 h (p, q) (List.mem_of_getElem? (List.getElem?_zip_eq_some.2 ⟨hp, hq⟩))
  unfold sub1 at this
  simp at this
  exact this
theorem bnd_sub {l m : List (Int × Int)} (h : SbL l m) (hm : bndB m = true) : bndB l = true := by
  unfold bndB at *
  rw [Bool.not_eq_true'] at *
  rw [List.any_eq_false] at *
  intro p hp he
  obtain ⟨i, hi⟩ := List.getElem?_of_mem hp
  obtain ⟨q, hq⟩ : ∃ q, m[i]? = some q := ⟨_, List.getElem?_eq_getElem (by rw [← h.1]; exact (List.getElem?_eq_some_iff.1 hi).1)⟩
  obtain ⟨a1, a2, a3⟩ := h.2 i p q hi hq
  exact hm q (List.mem_of_getElem? hq) ((entB_iff q).2 (ent_up a1 a2 a3 ((entB_iff p).1 he)))
/-- What an image must keep. -/
def ImG (m : Nat) (img : List (Int × Int) → List (Int × Int)) : Prop := ∀ B : List (Int × Int), B.length = m → (∀ p ∈ B, VI p.1 p.2) → (img B).length = m ∧ ∀ p ∈ img B, VI p.1 p.2
theorem encG_some {m : Nat} {img : List (Int × Int) → List (Int × Int)} (hi : ImG m img) : ∀ (n : Nat) (h d : List (Int × Int)), h.length = m → (∀ p ∈ h, VI p.1 p.2) → encG img n h = some d →
    ∃ c : List (Int × Int), c.length = m ∧ (∀ p ∈ c, VI p.1 p.2) ∧ d = img c ∧ subB d c = true ∧ bndB d = true
  | 0, h, d, _, _, e => by cases e
  | n + 1, h, d, hl, hv, e => by
    have h1 : (infL h).length = m := by rw [inf_len, hl]
    have h2 := inf_vi hv
    obtain ⟨h3, h4⟩ := hi _ h1 h2
    have hs : encG img (n + 1) h = if (bndB (infL h) && bndB (img (infL h))) = false then none else if subB (img (infL h)) (infL h) = true then some (img (infL h)) else encG img n (hulL (infL h) (img (infL h))) := rfl
    rw [hs] at e
    by_cases a : (bndB (infL h) && bndB (img (infL h))) = false
    · rw [if_pos a] at e; cases e
    · rw [if_neg a] at e
      by_cases b : subB (img (infL h)) (infL h) = true
      · rw [if_pos b] at e
        obtain rfl := Option.some.inj e
        rw [Bool.not_eq_false, Bool.and_eq_true] at a
        exact ⟨_, h1, h2, rfl, b, a.2⟩
      · rw [if_neg b] at e
        exact encG_some hi n _ d (by rw [hul_len (by rw [h3, h1]), h1]) (hul_vi h2 h4) e
theorem encR_some {m : Nat} {img : List (Int × Int) → List (Int × Int)} {X d : List (Int × Int)} (hi : ImG m img) (hX : X.length = m) (hv : ∀ p ∈ X, VI p.1 p.2) (e : encR img X = some d) :
    ∃ c : List (Int × Int), c.length = m ∧ (∀ p ∈ c, VI p.1 p.2) ∧ d = img c ∧ subB d c = true ∧ bndB d = true := by
  obtain ⟨h1, h2⟩ := hi X hX hv
  exact encG_some hi 8 _ d (by rw [hul_len (by rw [h1, hX]), hX]) (hul_vi hv h2) e
/-- A box that the search finds: it holds its own image, and the starts. -/
theorem encl_facts {L : List Is} {O : List Int} {N T H : Int} {X d : List (Int × Int)} (htv : tvB N L O = true) (hXN : (X.length : Int) = N) (hvx : ∀ p ∈ X, VI p.1 p.2) (t1 : -1048576 ≤ T) (t2 : T ≤ 1048576) (h0 : 0 ≤ H) (h1 : H ≤ 1000000) (e : encR (imgT L O T H X) X = some d) :
    d.length = X.length ∧ (∀ p ∈ d, VI p.1 p.2) ∧ bndB d = true ∧ SbL (imgT L O T H X d) d ∧ SbL X d := by
  have hi : ImG X.length (imgT L O T H X) := fun B hB hv => ⟨imgT_len htv hXN, imgT_vi htv hvx hv t1 t2 h0 h1⟩
  obtain ⟨c, c1, c2, rfl, c4, c5⟩ := encR_some hi rfl hvx e
  obtain ⟨d1, d2⟩ := hi c c1 c2
  have hdc : SbL (imgT L O T H X c) c := sb_of (by rw [d1, c1]) d2 c2 c4
  have him := imgT_iso htv hXN (sbL_refl hvx) hdc h0 (Int.le_refl H) h1 t1 (Int.le_refl T) (Int.le_refl _) t2
  refine ⟨d1, d2, c5, him, d1.symm, fun i p q hp hq => ⟨hvx _ (List.mem_of_getElem? hp), d2 _ (List.mem_of_getElem? hq), ?_⟩⟩
  obtain ⟨_, _, _, hon, hvl, _⟩ := tv_cases htv
  have hfl : (outV (evL c (T, T + H) L) O).length = X.length := by rw [out_len]; omega
  obtain ⟨f, hf⟩ : ∃ f, (outV (evL c (T, T + H) L) O)[i]? = some f := ⟨_, List.getElem?_eq_getElem (by rw [hfl]; exact (List.getElem?_eq_some_iff.1 hp).1)⟩
  have hq2 : (imgL H X (outV (evL c (T, T + H) L) O))[i]? = some q := hq
  rw [imgL_at hp hf] at hq2
  obtain rfl := Option.some.inj hq2
  exact imgP_sup (hvx _ (List.mem_of_getElem? hp)) (out_vi (evL_vi c2 (time_vi t1 t2 h0 h1) hvl) _ (List.mem_of_getElem? hf)) h0 h1
theorem encl_yes (N T H : Int) (vl vo vx : Value) (L : List Is) (O : List Int) (X d : List (Int × Int)) (w : World) (hl : Ix w vl L) (ho : Px w vo O) (hx : Vx w vx X) (htv : tvB N L O = true) (hXN : (X.length : Int) = N) (hvx : ∀ p ∈ X, VI p.1 p.2) (ht1 : -1048576 ≤ T) (ht2 : T ≤ 1048576) (h0 : 0 ≤ H) (h1 : H ≤ 1000000) (hr : encR (imgT L O T H X) X = some d) :
    Calls Try.prog 14 #[.agg #[.int .i64 N, vl, vo], vx, .agg #[.int .i64 T, .int .i64 H]] w fun e w' => ∃ p c, e = .returned (.tuple #[.slice p X.length c, .bool true]) ∧ Vx w' (.slice p X.length c) d ∧ Below w.heap.size w w' :=
  (encl_ok N T H vl vo vx L O X w hl ho hx htv hXN hvx ht1 ht2 h0 h1 _ hr).mono fun e w' ⟨v, he, hv, hB⟩ => by
    have hl := (encl_facts htv hXN hvx ht1 ht2 h0 h1 hr).1
    have hv2 : Vx w' v d := hv
    obtain ⟨p, c, rfl⟩ := hv2.cut
    rw [hl] at hv2 he
    exact ⟨p, c, he, hv2, hB⟩
theorem encl_no (N T H : Int) (vl vo vx : Value) (L : List Is) (O : List Int) (X : List (Int × Int)) (w : World) (hl : Ix w vl L) (ho : Px w vo O) (hx : Vx w vx X) (htv : tvB N L O = true) (hXN : (X.length : Int) = N) (hvx : ∀ p ∈ X, VI p.1 p.2) (ht1 : -1048576 ≤ T) (ht2 : T ≤ 1048576) (h0 : 0 ≤ H) (h1 : H ≤ 1000000) (hr : encR (imgT L O T H X) X = none) :
    Calls Try.prog 14 #[.agg #[.int .i64 N, vl, vo], vx, .agg #[.int .i64 T, .int .i64 H]] w fun e w' => ∃ p c, e = .returned (.tuple #[.slice p 0 c, .bool false]) ∧ Below w.heap.size w w' :=
  (encl_ok N T H vl vo vx L O X w hl ho hx htv hXN hvx ht1 ht2 h0 h1 _ hr).mono fun e w' ⟨v, he, hv, hB⟩ => by
    have hv2 : Vx w' v [] := hv
    obtain ⟨p, c, rfl⟩ := hv2.cut
    exact ⟨p, c, he, hB⟩
theorem wid_sb2 {l : List (Int × Int)} {bs : List Int} (hl : ∀ p ∈ l, -2000000 < p.1 ∧ p.1 ≤ p.2 ∧ p.2 < 2000000) (hb : ∀ x ∈ bs, IntKind.has .u16 x) : SbL l (widL l bs l.length) := by
  refine ⟨(widL_len _ _ _).symm, fun i p q hp hq => ?_⟩
  have hi := (List.getElem?_eq_some_iff.1 hp).1
  unfold widL at hq
  rw [List.getElem?_map, List.getElem?_range hi] at hq
  cases hq
  have h1 := hl p (List.mem_of_getElem? hp)
  have h2 := bs_bd hb i
  have h3 := bs_bd hb (5 - i)
  have hg : l.getD i (0, 0) = p := by rw [List.getD_eq_getElem?_getD, hp]; rfl
  have e1 : (wid l bs i).1 = p.1 - bs.getD i 0 := by unfold wid; rw [hg]
  have e2 : (wid l bs i).2 = p.2 + bs.getD (5 - i) 0 := by unfold wid; rw [hg]
  unfold VI Num SbI Sb
  rw [e1, e2]
  omega
theorem wid_bd {l : List (Int × Int)} {bs : List Int} {a b : Int} (hl : ∀ p ∈ l, a < p.1 ∧ p.1 ≤ p.2 ∧ p.2 < b) (hb : ∀ x ∈ bs, IntKind.has .u16 x) : ∀ p ∈ widL l bs l.length, a - 65536 < p.1 ∧ p.1 ≤ p.2 ∧ p.2 < b + 65536 := by
  intro q hq
  obtain ⟨i, hi⟩ := List.getElem?_of_mem hq
  have hil := (List.getElem?_eq_some_iff.1 hi).1
  rw [widL_len] at hil
  unfold widL at hi
  rw [List.getElem?_map, List.getElem?_range hil] at hi
  obtain ⟨p, hp⟩ : ∃ p, l[i]? = some p := ⟨_, List.getElem?_eq_getElem hil⟩
  cases hi
  have h1 := hl p (List.mem_of_getElem? hp)
  have h2 := bs_bd hb i
  have h3 := bs_bd hb (5 - i)
  have hg : l.getD i (0, 0) = p := by rw [List.getD_eq_getElem?_getD, hp]; rfl
  have e1 : (wid l bs i).1 = p.1 - bs.getD i 0 := by unfold wid; rw [hg]
  have e2 : (wid l bs i).2 = p.2 + bs.getD (5 - i) 0 := by unfold wid; rw [hg]
  rw [e1, e2]
  omega
theorem bx_bd (l : List (Int × Int)) (N : Nat) : ∀ p ∈ boxI l N 65536, -1048576 < p.1 ∧ p.1 ≤ p.2 ∧ p.2 < 1114112 := by
  intro p hp
  have := boxI_bd l N (d := 65536) (by decide) p hp
  omega
theorem bd_vi {l : List (Int × Int)} {a b : Int} (ha : -2000000 ≤ a) (hb : b ≤ 2000000) (h : ∀ p ∈ l, a < p.1 ∧ p.1 ≤ p.2 ∧ p.2 < b) : ∀ p ∈ l, VI p.1 p.2 := fun p hp => by
  have := h p hp
  exact .inr ⟨by unfold Num; omega, by unfold Num; omega, this.2.1⟩
end Go.Proofs.Ytecmgiihacigaaa
