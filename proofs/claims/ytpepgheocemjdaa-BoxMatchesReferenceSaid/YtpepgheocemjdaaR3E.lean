/-
  The reference's Bisect.
-/
import Derived.Test.YtpepgheocemjdaaR3D
namespace Go.Proofs.Ytpepgheocemjdaa
open Go.ChangeShapes Go.WideShapes Go.ChangeAt Go.RowKit
set_option linter.unusedVariables false
set_option linter.unusedSimpArgs false
set_option maxRecDepth 100000

attribute [local irreducible] Calls
theorem r3bis_low (p : Option Addr) (n c : Nat) (k : Int) (w : World) (hk : k < 0) :
    Calls Try.prog 47 #[.slice p n c, .int .i64 k] w fun e w' => e = .returned (.tuple #[.slice none 0 0, .slice none 0 0, .int .i64 1]) ∧ w = w' := by
  have hd : decide (k < 0) = true := decide_eq_true hk
  go_enter Try.func47, Try.ntmps47
  go_wp2_with (fail)
  go_ret3
  exact ⟨rfl, rfl⟩
theorem r3bis_high (p : Option Addr) (n c : Nat) (k : Int) (w : World) (h0 : 0 ≤ k) (hk : (n : Int) ≤ k) :
    Calls Try.prog 47 #[.slice p n c, .int .i64 k] w fun e w' => e = .returned (.tuple #[.slice none 0 0, .slice none 0 0, .int .i64 1]) ∧ w = w' := by
  have hd : decide (k < 0) = false := decide_eq_false (by omega)
  have hd2 : decide ((n : Int) ≤ k) = true := decide_eq_true hk
  go_enter Try.func47, Try.ntmps47
  go_wp2_with (fail)
  go_ret3
  exact ⟨rfl, rfl⟩
theorem r3bis_ent (v : Value) (l : List (Int × Int)) (k : Nat) (w : World) (hv : Bx w v l) (hsm : l.length ≤ 1000) (hk : k < l.length) (he : l[k]? = some (-2147483648, 2147483648)) :
    Calls Try.prog 47 #[v, .int .i64 k] w fun e w' => e = .returned (.tuple #[.slice none 0 0, .slice none 0 0, .int .i64 1]) ∧ Below w.heap.size w w' := by
  obtain ⟨p, c, rfl⟩ := hv.cut
  obtain ⟨b, o, hp, hb, rd⟩ := hv.rd2 he
  subst hp
  have c1 := (rd ⟨w, Below.refl _ _⟩).2.1
  have c2 := (rd ⟨w, Below.refl _ _⟩).2.2
  dsimp only at c1 c2
  clear rd hv he
  have h0 : (0 : Int) ≤ k := by omega
  have h1 : (k : Int) < l.length := by omega
  go_enter Try.func47, Try.ntmps47
  go_wp2_with (fail)
  refine (r2ent_yes _).mono ?_
  rintro e w1 ⟨rfl, hB1⟩
  go_wp2_with (fail)
  go_ret3
  exact ⟨rfl, hB1⟩
theorem cz_set2 : ∀ (l : List (Int × Int)) (k : Nat) (u v : Int), cz (l.set k (u, v)) = ((cz l).set (k * 2) (.int .i64 u)).set (k * 2 + 1) (.int .i64 v)
  | [], k, u, v => by simp [cz]
  | p :: l, 0, u, v => by simp [cz]
  | p :: l, k + 1, u, v => by
    have := cz_set2 l k u v
    rw [show (k + 1) * 2 = k * 2 + 1 + 1 by omega, show k * 2 + 1 + 1 + 1 = (k * 2 + 1) + 1 + 1 by omega]
    simp only [List.set_cons_succ, cz, this]
theorem row_slice {w : World} {B : Nat} {v : Value} {l : List (Int × Int)} {n : Nat} (hn : 0 < n) (h : w.ownsRow B 23 2 v n (cz l)) : ∃ g cap, v = .slice (some ⟨g, 0, none⟩) n cap := by
  rcases h.2 with ⟨_, h0⟩ | ⟨g, cap, _, h, _⟩
  · omega
  · exact ⟨g, cap, h⟩
set_option maxHeartbeats 8000000 in
theorem r3bis_ok (v : Value) (l : List (Int × Int)) (k : Nat) (x y : Int) (w : World) (hv : Bx w v l) (hsm : l.length ≤ 1000) (hx : l[k]? = some (x, y)) (hV : VI x y) (he : ¬ Ent x y) :
    Calls Try.prog 47 #[v, .int .i64 k] w fun e w' => ∃ u1 u2, e = .returned (.tuple #[u1, u2, .int .i64 0]) ∧ Bx w' u1 (l.set k (x, (x + y) / 2)) ∧ Bx w' u2 (l.set k ((x + y) / 2, y)) ∧ Below w.heap.size w w' := by
  have hk : k < l.length := (List.getElem?_eq_some_iff.1 hx).1
  have cm := fun w => r2mid x y w hV.bd.1 hV.bd.2.1 hV.bd.2.2.1 hV.bd.2.2.2.1
  have ci := fun w => r2ent_no x y w he
  have hs1 := cz_set2 l k x ((x + y) / 2)
  have hs2 := cz_set2 l k ((x + y) / 2) y
  generalize (x + y) / 2 = q at *
  obtain ⟨i0, hi, hz0, hz1, hz2⟩ := info_parts info_iv
  obtain ⟨p, c, rfl⟩ := hv.cut
  obtain ⟨b, o, hp, hb, rd⟩ := hv.rd2 hx
  subst hp
  have hcs : ∀ j u, (cz l)[j]? = some u → w.cell? ((⟨b, o, none⟩ : Addr).add j) = some u := by
    obtain ⟨_, p', c', e, h⟩ := hv
    simp only [Value.slice.injEq] at e
    obtain ⟨rfl, _, _⟩ := e
    exact cz_cells h
  have HL := Lib.hid (cz_len l)
  have HO := Lib.hid (cz_one l)
  have HC := Lib.hid hcs
  have S1 := Lib.hid hs1
  have S2 := Lib.hid hs2
  have CM := Lib.hid cm
  have CI := Lib.hid ci
  have f1 := fun g => (rd g).2.1
  have f2 := fun g => (rd g).2.2
  clear rd hv hcs hs1 hs2 cm ci he hV hx
  have h0 : (0 : Int) ≤ k := by omega
  have h1 : (k : Int) < l.length := by omega
  have c1 := f1 ⟨w, Below.refl _ _⟩
  have c2 := f2 ⟨w, Below.refl _ _⟩
  dsimp only at c1 c2
  go_enter Try.func47, Try.ntmps47
  go_wp2_with (fail)
  refine (CI.out _).mono ?_
  rintro e w1 ⟨rfl, hB1⟩
  clear c1 c2
  have HBS := Lib.hid hB1.size
  have hown : (w1.alloc (.cells #[] 23)).ownsRow w.heap.size 23 2 (.slice (some ⟨w1.heap.size, 0, none⟩) 0 0) 0 [] := World.ownsRow_made (e := 23) (size := 2) w1 #[] 0 hB1.size (by decide) rfl
  go_wp2_with (at_builtin; refine wpList_append_own _ rfl (.tmp 25) (.tmp 26) 36 rfl w.heap.size 23 i0 (.agg #[.int .i64 0, .int .i64 0]) 2 16 Try.underlying36 hi hz0 hz1 hz2 rfl (by decide) (.slice (some ⟨w1.heap.size, 0, none⟩) 0 0) 0 _ rfl hown ⟨b, o, none⟩ l.length c (cz l) rfl HL.out ?_ HO.out (by unfold maxLen; omega) (by omega) (by first | (simp; done) | (have := hB1.size; have := HBS.out; simp; omega)) ?_)
  · intro j u hj
    have hw := HC.out j u hj
    rw [add_off] at hw ⊢
    exact ((hB1.alloc hB1.size _).cell (p := ⟨b, o + j, none⟩) hb).trans hw
  intro v' w2 hown1 hgrow _
  obtain ⟨g1, cap1, rfl⟩ := row_slice (by omega) hown1
  have hB2 : Below w.heap.size w w2 := Below.grown (hB1.alloc hB1.size _) hgrow (by have := hB1.size; simp; omega) (fun k hk => (hown.lt k hk).1)
  have HBS := Lib.hid hB2.size
  have hown' : (w2.alloc (.cells #[] 23)).ownsRow w2.heap.size 23 2 (.slice (some ⟨w2.heap.size, 0, none⟩) 0 0) 0 [] := World.ownsRow_made (e := 23) (size := 2) w2 #[] 0 (Nat.le_refl _) (by decide) rfl
  have R1 := Lib.hid hown1
  clear hown1 hgrow hown
  go_wp2_with (at_builtin; refine wpList_append_own _ rfl (.tmp 28) (.tmp 29) 36 rfl w2.heap.size 23 i0 (.agg #[.int .i64 0, .int .i64 0]) 2 16 Try.underlying36 hi hz0 hz1 hz2 rfl (by decide) (.slice (some ⟨w2.heap.size, 0, none⟩) 0 0) 0 _ rfl hown' ⟨b, o, none⟩ l.length c (cz l) rfl HL.out ?_ HO.out (by unfold maxLen; omega) (by omega) (by first | (simp; done) | (have := hB1.size; have := HBS.out; simp; omega)) ?_)
  · intro j u hj
    have hw := HC.out j u hj
    rw [add_off] at hw ⊢
    exact ((hB2.alloc hB2.size _).cell (p := ⟨b, o + j, none⟩) hb).trans hw
  intro v'' w3 hown2 hgrow _
  obtain ⟨g2, cap2, rfl⟩ := row_slice (by omega) hown2
  have hg1 := R1.out.lt g1 rfl
  have ho2 := hown'.lt w2.heap.size rfl
  have row1 := (R1.out.alloc (.cells #[] 23)).kept hgrow (.inr (by simp [Value.ownBlock]; omega))
  have hB3 : Below w.heap.size w w3 := Below.grown (hB2.alloc hB2.size _) hgrow (by have := hB2.size; simp; omega) (fun k hk => Nat.le_trans hB2.size (hown'.lt k hk).1)
  have r2a := hown2.lt g2 rfl
  have hne : g1 ≠ g2 := by omega
  have hne' : g2 ≠ g1 := by omega
  have R1' := Lib.hid row1
  have R2 := Lib.hid hown2
  clear row1 hown2 hgrow hown'
  have c1 := f1 ⟨w3, hB3⟩
  have c2 := f2 ⟨w3, hB3⟩
  dsimp only at c1 c2
  go_wp2_with (fail)
  refine (CM.out _).mono ?_
  rintro e w4 ⟨rfl, hB4⟩
  clear c1 c2
  have hB5 := below_then hB3 hB4
  have c1 := f1 ⟨w4, hB5⟩
  have c2 := f2 ⟨w4, hB5⟩
  dsimp only at c1 c2
  have hbg1 : b ≠ g1 := by omega
  have hbg2 : b ≠ g2 := by have := hB2.size; omega
  have hbg1' : g1 ≠ b := by omega
  have hbg2' : g2 ≠ b := by have := hB2.size; omega
  have row1' := R1'.out.kept (grown_below hB4) (.inr (by simp [Value.ownBlock]))
  have row2' := R2.out.kept (grown_below hB4) (.inr (by simp [Value.ownBlock]))
  have s1 := row1'.stored (k * 2) (.int .i64 x)
  have s2 := s1.1.stored (k * 2 + 1) (.int .i64 q)
  have row2'' := (row2'.kept s1.2 (.inr (by simp [Value.ownBlock]; omega))).kept s2.2 (.inr (by simp [Value.ownBlock]; omega))
  have s3 := row2''.stored (k * 2) (.int .i64 q)
  have s4 := s3.1.stored (k * 2 + 1) (.int .i64 y)
  have row1'' := (s2.1.kept s3.2 (.inr (by simp [Value.ownBlock]; omega))).kept s4.2 (.inr (by simp [Value.ownBlock]; omega))
  have hcl := HL.out
  obtain ⟨z1, hz1'⟩ : ∃ z, (cz l)[k * 2]? = some z := ⟨_, List.getElem?_eq_getElem (by omega)⟩
  obtain ⟨z2, hz2'⟩ : ∃ z, (cz l)[k * 2 + 1]? = some z := ⟨_, List.getElem?_eq_getElem (by omega)⟩
  have e1 := row1'.cellAt (k * 2) (by omega)
  have e2 := row1'.cellAt (k * 2 + 1) (by omega)
  have e3 := row2'.cellAt (k * 2) (by omega)
  have e4 := row2'.cellAt (k * 2 + 1) (by omega)
  rw [hz1'] at e1 e3
  rw [hz2'] at e2 e4
  have f3 := row1'.frozenAt (k * 2)
  have f4 := row1'.frozenAt (k * 2 + 1)
  have f5 := row2'.frozenAt (k * 2)
  have f6 := row2'.frozenAt (k * 2 + 1)
  have X1 := Lib.hid row1''
  have X2 := Lib.hid s4.1
  have hg1w : w.heap.size ≤ g1 := hg1.1
  have hg2w : w.heap.size ≤ g2 := Nat.le_trans hB2.size r2a.1
  have hB6 : Below w.heap.size w ((((w4.setCell ⟨g1, k * 2, none⟩ (.int .i64 x)).setCell ⟨g1, k * 2 + 1, none⟩ (.int .i64 q)).setCell ⟨g2, k * 2, none⟩ (.int .i64 q)).setCell ⟨g2, k * 2 + 1, none⟩ (.int .i64 y)) := (((hB5.setCell (p := ⟨g1, k * 2, none⟩) hg1w _).setCell (p := ⟨g1, k * 2 + 1, none⟩) hg1w _).setCell (p := ⟨g2, k * 2, none⟩) hg2w _).setCell (p := ⟨g2, k * 2 + 1, none⟩) hg2w _
  clear row1' row2' s1 s2 s3 s4 row1'' row2'' hz1' hz2' hcl
  go_wp2_with (fail)
  go_ret3
  refine ⟨_, _, rfl, Bx.own (B := w.heap.size) ?_ (by rw [List.length_set]; unfold maxLen; omega), Bx.own (B := w2.heap.size) ?_ (by rw [List.length_set]; unfold maxLen; omega), hB6⟩
  · have := X1.out
    rw [← S1.out] at this
    rw [List.length_set]
    exact this
  · have := X2.out
    rw [← S2.out] at this
    rw [List.length_set]
    exact this
end Go.Proofs.Ytpepgheocemjdaa
