/-
  Lists of intervals: bisection, distances of points.
-/
import Derived.Test.YtpepgheocemjdaaBoxM
namespace Go.Proofs.Ytpepgheocemjdaa
open Go.ChangeShapes Go.WideShapes Go.ChangeAt Go.RowKit
set_option linter.unusedVariables false
set_option linter.unusedSimpArgs false
set_option maxRecDepth 100000

/-! Bisection. -/
theorem set_at {α : Type} {a : List α} {k i : Nat} {u z : α} (h : (a.set k u)[i]? = some z) : (i = k ∧ z = u) ∨ (i ≠ k ∧ a[i]? = some z) := by
  by_cases e : i = k
  · subst e
    have hl : i < a.length := by
      have := (List.getElem?_eq_some_iff.1 h).1
      simpa using this
    rw [List.getElem?_set_self hl] at h
    exact .inl ⟨rfl, (Option.some.inj h).symm⟩
  · rw [List.getElem?_set_ne (fun q => e q.symm)] at h
    exact .inr ⟨e, h⟩
theorem at_set {α : Type} {a : List α} {k : Nat} {u x : α} (h : a[k]? = some x) : (a.set k u)[k]? = some u := List.getElem?_set_self (List.getElem?_eq_some_iff.1 h).1
theorem at_set_ne {α : Type} {a : List α} {k i : Nat} {u z : α} (e : i ≠ k) (h : a[i]? = some z) : (a.set k u)[i]? = some z := by
  rw [List.getElem?_set_ne (fun q => e q.symm)]
  exact h
section
variable {a : List (Int × Int)} {k : Nat} {x y : Int} (hk : a[k]? = some (x, y)) (hv : VI x y)
include hk hv
theorem mid_in : x ≤ (x + y) / 2 ∧ (x + y) / 2 ≤ y := by
  have _ := hk
  have := VB.dat (p := (x, y)) hv
  simp only at this
  omega
theorem bis_hull : ((a.set k (x, (x + y) / 2)).zip (a.set k ((x + y) / 2, y))).map hullI = a := by
  have hm := mid_in hk hv
  apply List.ext_getElem?
  intro i
  by_cases e : i = k
  · subst e
    rw [hk]
    refine (zip_map_at _ _ _ _ _).2 ⟨_, _, at_set hk, at_set hk, ?_⟩
    simp only [hullI, Prod.mk.injEq]
    omega
  · cases h : a[i]? with
    | none =>
      apply List.getElem?_eq_none
      have := List.getElem?_eq_none_iff.1 h
      simpa using this
    | some z =>
      refine (zip_map_at _ _ _ _ _).2 ⟨_, _, at_set_ne e h, at_set_ne e h, ?_⟩
      obtain ⟨z1, z2⟩ := z
      simp only [hullI, Prod.mk.injEq]
      omega
theorem bis_vb (he : ¬ Ent x y) (ha : ∀ p ∈ a, VB p) : (∀ p ∈ a.set k (x, (x + y) / 2), VB p) ∧ (∀ p ∈ a.set k ((x + y) / 2, y), VB p) := by
  have hm := mid_in hk hv
  have hn := hv.resolve_left he
  constructor
  · intro p hp
    obtain ⟨i, hi⟩ := List.mem_iff_getElem?.1 hp
    rcases set_at hi with ⟨_, rfl⟩ | ⟨_, h⟩
    · unfold VB VI Num at *
      simp only
      omega
    · exact ha p (at_mem h)
  · intro p hp
    obtain ⟨i, hi⟩ := List.mem_iff_getElem?.1 hp
    rcases set_at hi with ⟨_, rfl⟩ | ⟨_, h⟩
    · unfold VB VI Num at *
      simp only
      omega
    · exact ha p (at_mem h)
theorem bis_con (m : List Int) (hm : m.length = a.length) (hn : ∀ p ∈ m, Num p) (h : (a.zip m).all con1 = true) : ((a.set k (x, (x + y) / 2)).zip m).all con1 = true ∨ ((a.set k ((x + y) / 2, y)).zip m).all con1 = true := by
  have _ := hv
  obtain ⟨p, hp⟩ := at_len hm hk
  have hq := hn p (at_mem hp)
  have h1 := (con1_iff hq).1 ((zip_all _ _ _).1 h k _ p hk hp)
  simp only at h1
  by_cases hc : p ≤ (x + y) / 2
  · left
    refine (zip_all _ _ _).2 fun i u p' hu hp' => ?_
    rcases set_at hu with ⟨rfl, rfl⟩ | ⟨_, hu'⟩
    · obtain rfl : p' = p := by rw [hp'] at hp; exact Option.some.inj hp
      exact (con1_iff hq).2 (by simp only; omega)
    · exact (zip_all _ _ _).1 h i u p' hu' hp'
  · right
    refine (zip_all _ _ _).2 fun i u p' hu hp' => ?_
    rcases set_at hu with ⟨rfl, rfl⟩ | ⟨_, hu'⟩
    · obtain rfl : p' = p := by rw [hp'] at hp; exact Option.some.inj hp
      exact (con1_iff hq).2 (by simp only; omega)
    · exact (zip_all _ _ _).1 h i u p' hu' hp'
theorem bis_meet (ha : ∀ p ∈ a, VB p) : ((a.set k (x, (x + y) / 2)).zip (a.set k ((x + y) / 2, y))).all okM = true := by
  have hm := mid_in hk hv
  refine (zip_all _ _ _).2 fun i u v hu hv' => ?_
  rcases set_at hu with ⟨rfl, rfl⟩ | ⟨e, hu'⟩
  · rcases set_at hv' with ⟨_, rfl⟩ | ⟨e, _⟩
    · simp only [okM, decide_eq_true_eq]
      omega
    · exact absurd rfl e
  · rcases set_at hv' with ⟨e', _⟩ | ⟨_, hv''⟩
    · exact absurd e' e
    · obtain rfl : u = v := by rw [hu'] at hv''; exact Option.some.inj hv''
      have := (ha u (at_mem hu')).dat
      simp only [okM, decide_eq_true_eq]
      omega
theorem bis_mid : (((a.set k (x, (x + y) / 2)).zip (a.set k ((x + y) / 2, y))).map meetI)[k]? = some ((x + y) / 2, (x + y) / 2) := by
  have hm := mid_in hk hv
  refine (zip_map_at _ _ _ _ _).2 ⟨_, _, at_set hk, at_set hk, ?_⟩
  simp only [meetI, Prod.mk.injEq]
  omega
end
theorem axn_lt' (l : List (Int × Int)) (h : 0 < l.length) : axn l l.length < l.length := by
  obtain ⟨n, hn⟩ : ∃ n, l.length = n + 1 := ⟨l.length - 1, by omega⟩
  rw [hn]
  have := axn_lt l n
  simp only [axn]
  split <;> omega

/-! Distances of points. -/
def dlo (z : Int × Int) : Int := dn ((z.1 - z.2) * (z.1 - z.2)) 65536
def dhi (z : Int × Int) : Int := up ((z.1 - z.2) * (z.1 - z.2)) 65536
def dsum (f : Int × Int → Int) (l : List (Int × Int)) : Int := l.foldl (fun s z => s + f z) 0
theorem dsum_snoc (f : Int × Int → Int) (l : List (Int × Int)) (z : Int × Int) : dsum f (l ++ [z]) = dsum f l + f z := by simp [dsum]
theorem sq_num {x : Int} (h1 : -4294967296 ≤ x) (h2 : x ≤ 4294967296) : 0 ≤ x * x ∧ x * x ≤ 18446744073709551616 := by
  refine ⟨sq_nonneg x, ?_⟩
  have := (mul_bound x x 4294967296 4294967296 h1 h2 h1 h2).2
  omega
theorem dlo_bd {z : Int × Int} (h1 : Num z.1) (h2 : Num z.2) : 0 ≤ dlo z ∧ dlo z ≤ 281474976710656 := by
  unfold Num at *
  have h := sq_num (x := z.1 - z.2) (by omega) (by omega)
  have g := dn_mul ((z.1 - z.2) * (z.1 - z.2)) (d := 65536) (by decide)
  unfold dlo
  omega
theorem dhi_bd {z : Int × Int} (h1 : Num z.1) (h2 : Num z.2) : 0 ≤ dhi z ∧ dhi z ≤ 281474976710656 := by
  unfold Num at *
  have h := sq_num (x := z.1 - z.2) (by omega) (by omega)
  have g := up_mul ((z.1 - z.2) * (z.1 - z.2)) (d := 65536) (by decide)
  unfold dhi
  omega
theorem sq_between {x a b : Int} (h1 : a ≤ x) (h2 : x ≤ b) : sq1 a b ≤ x * x ∧ x * x ≤ sq2 a b := by
  constructor
  · unfold sq1
    split
    · exact sq_nonneg x
    · rename_i hc
      by_cases hx : 0 ≤ a
      · have := sq_le hx h1
        omega
      · have hb : b < 0 := by omega
        have := sq_le (show 0 ≤ -b by omega) (show -b ≤ -x by omega)
        rw [Int.neg_mul_neg, Int.neg_mul_neg] at this
        omega
  · unfold sq2
    by_cases hx : 0 ≤ x
    · have := sq_le hx h2
      omega
    · have := sq_le (show 0 ≤ -x by omega) (show -x ≤ -a by omega)
      rw [Int.neg_mul_neg, Int.neg_mul_neg] at this
      omega
theorem sub_cont {x y : Int × Int} {p q : Int} (hx : x.1 ≤ p ∧ p ≤ x.2) (hy : y.1 ≤ q ∧ q ≤ y.2) : Ent (subI x y).1 (subI x y).2 ∨ ((subI x y).1 ≤ p - q ∧ p - q ≤ (subI x y).2) := by
  unfold subI addLo addHi
  by_cases h : Ent x.1 x.2 ∨ Ent (-y.2) (-y.1)
  · simp only [if_pos h]
    exact .inl ⟨rfl, rfl⟩
  · simp only [if_neg h, mkLo, mkHi]
    by_cases g : Num (x.1 + -y.2) ∧ Num (x.2 + -y.1)
    · simp only [if_pos g]
      omega
    · simp only [if_neg g]
      exact .inl ⟨rfl, rfl⟩
theorem sq_cont {r : Int × Int} {t : Int} (h : Ent r.1 r.2 ∨ (r.1 ≤ t ∧ t ≤ r.2)) : Ent (sqI r).1 (sqI r).2 ∨ (0 ≤ (sqI r).1 ∧ (sqI r).1 ≤ dn (t * t) 65536 ∧ up (t * t) 65536 ≤ (sqI r).2) := by
  unfold sqI sqLo sqHi
  by_cases he : Ent r.1 r.2
  · simp only [if_pos he]
    exact .inl ⟨rfl, rfl⟩
  · have h := h.resolve_left he
    have g := sq_between h.1 h.2
    simp only [if_neg he, mkLo, mkHi]
    by_cases hk : Num (dn (sq1 r.1 r.2) 65536) ∧ Num (up (sq2 r.1 r.2) 65536)
    · simp only [if_pos hk]
      have n0 : 0 ≤ sq1 r.1 r.2 := by
        unfold sq1
        have := sq_nonneg r.1
        have := sq_nonneg r.2
        split <;> omega
      refine .inr ⟨dn_le (by decide) (by omega), dn_mono (by decide) g.1, up_mono (by decide) g.2⟩
    · simp only [if_neg hk]
      exact .inl ⟨rfl, rfl⟩
def Enc (s : Int × Int) (lo hi : Int) : Prop := Ent s.1 s.2 ∨ (0 ≤ s.1 ∧ s.1 ≤ hi ∧ lo ≤ s.2)
theorem add_enc {s r : Int × Int} {lo hi t : Int} (h : Enc s lo hi) (g : Ent r.1 r.2 ∨ (0 ≤ r.1 ∧ r.1 ≤ dn (t * t) 65536 ∧ up (t * t) 65536 ≤ r.2)) : Enc (addI s r) (lo + dn (t * t) 65536) (hi + up (t * t) 65536) := by
  have hud := (up_dn (t * t) (d := 65536) (by decide)).1
  unfold Enc addI addLo addHi at *
  by_cases he : Ent s.1 s.2 ∨ Ent r.1 r.2
  · simp only [if_pos he]
    exact .inl ⟨rfl, rfl⟩
  · have h := h.resolve_left (fun q => he (.inl q))
    have g := g.resolve_left (fun q => he (.inr q))
    simp only [if_neg he, mkLo, mkHi]
    by_cases hk : Num (s.1 + r.1) ∧ Num (s.2 + r.2)
    · simp only [if_pos hk]
      omega
    · simp only [if_neg hk]
      exact .inl ⟨rfl, rfl⟩
theorem fold_enc : ∀ (a b : List (Int × Int)) (p q : List Int) (s : Int × Int) (lo hi : Int), b.length = a.length → p.length = a.length → q.length = a.length → (∀ x ∈ p, Num x) → (∀ x ∈ q, Num x) → (a.zip p).all con1 = true → (b.zip q).all con1 = true → Enc s lo hi →
    Enc ((a.zip b).foldl step1 s) ((p.zip q).foldl (fun s z => s + dlo z) lo) ((p.zip q).foldl (fun s z => s + dhi z) hi)
  | [], _, [], _, _, _, _, _, _, _, _, _, _, _, h => by simpa using h
  | [], _, _ :: _, _, _, _, _, _, h, _, _, _, _, _, _ => by simp at h
  | _ :: _, [], _, _, _, _, _, h, _, _, _, _, _, _, _ => by simp at h
  | _ :: _, _, [], _, _, _, _, _, h, _, _, _, _, _, _ => by simp at h
  | _ :: _, _, _, [], _, _, _, _, _, h, _, _, _, _, _ => by simp at h
  | x :: a, y :: b, p :: ps, q :: qs, s, lo, hi, l1, l2, l3, np, nq, cp, cq, h => by
    rw [List.zip_cons_cons, List.all_cons, Bool.and_eq_true] at cp cq
    rw [List.zip_cons_cons, List.zip_cons_cons, List.foldl_cons, List.foldl_cons, List.foldl_cons]
    have c1 := (con1_iff (np p (by simp))).1 cp.1
    have c2 := (con1_iff (nq q (by simp))).1 cq.1
    exact fold_enc a b ps qs _ _ _ (by simpa using l1) (by simpa using l2) (by simpa using l3) (fun z hz => np z (by simp [hz])) (fun z hz => nq z (by simp [hz])) cp.2 cq.2 (add_enc h (sq_cont (sub_cont c1 c2)))
theorem dist_enc (a b : List (Int × Int)) (p q : List Int) (l1 : b.length = a.length) (l2 : p.length = a.length) (l3 : q.length = a.length) (np : ∀ x ∈ p, Num x) (nq : ∀ x ∈ q, Num x) (cp : (a.zip p).all con1 = true) (cq : (b.zip q).all con1 = true) (he : ¬ Ent (sdist (a.zip b)).1 (sdist (a.zip b)).2) :
    0 ≤ (sdist (a.zip b)).1 ∧ (sdist (a.zip b)).1 ≤ dsum dhi (p.zip q) ∧ dsum dlo (p.zip q) ≤ (sdist (a.zip b)).2 :=
  (fold_enc a b p q (0, 0) 0 0 l1 l2 l3 np nq cp cq (.inr ⟨by decide, by decide, by decide⟩)).resolve_left he
end Go.Proofs.Ytpepgheocemjdaa
