/-
 Iw4a
-/
import Derived.Test.YtdfdpghdjlgghaaGreatKdc
namespace Go.Proofs.YtdfdpghdjlgghaaGreat
open Go.ChangeShapes Go.WideShapes Go.ChangeAt Go.RowKit
set_option linter.unusedVariables false
set_option linter.unusedSimpArgs false
set_option maxRecDepth 100000
set_option maxHeartbeats 1000000 in
theorem iv_add (a b c d:Int) (w:World) (hv:VI a b) (hw:VI c d) :
  Calls Tryz.prog 165 #[.agg #[.int .i64 a,.int .i64 b],.agg #[.int .i64 c,.int .i64 d]] w fun e w'=>e = .returned (.agg #[.int .i64 (addLo a b c d),.int .i64 (addHi a b c d)])∧Below w.heap.size w w':=by
 obtain ⟨ha1,ha2,hb1,hb2,hab⟩:=hv.bd
 obtain ⟨hc1,hc2,hd1,hd2,hcd⟩:=hw.bd
 have hv':=Lib.hid hv
 have hw':=Lib.hid hw
 clear hv hw
 unfold addLo addHi
 by_cases h1:Ent a b
 ·rw [if_pos (.inl h1),if_pos (.inl h1)]
  obtain ⟨rfl,rfl⟩:=h1
  go_enter Tryz.func165,Tryz.ntmps165
  go_wp2_with (fail)
  refine (iv_ent_yes _).mono ?_
  rintro e1 w1 ⟨rfl,hB1⟩
  obtain ⟨kc1,kf1⟩:=bcell hB1
  have hz1:=hB1.size
  simp only [World.size_alloc] at hz1
  have hs1_0:w.heap.size < w1.heap.size:=by omega
  have hs1_1:w.heap.size+1 < w1.heap.size:=by omega
  have hs1_2:w.heap.size+1+1 < w1.heap.size:=by omega
  have c1_0_0:w1.cell? ⟨w.heap.size,0,none⟩ = some (.int .i64 (-2147483648)):=(kc1 _ _ (by simp <;> omega)).trans (by simp [go_sem])
  have c1_0_1:w1.cell? ⟨w.heap.size,1,none⟩ = some (.int .i64 2147483648):=(kc1 _ _ (by simp <;> omega)).trans (by simp [go_sem])
  have c1_1_0:w1.cell? ⟨w.heap.size+1,0,none⟩ = some (.int .i64 c):=(kc1 _ _ (by simp <;> omega)).trans (by simp [go_sem])
  have c1_1_1:w1.cell? ⟨w.heap.size+1,1,none⟩ = some (.int .i64 d):=(kc1 _ _ (by simp <;> omega)).trans (by simp [go_sem])
  have c1_2_0:w1.cell? ⟨w.heap.size+1+1,0,none⟩ = some (.int .i64 0):=(kc1 _ _ (by simp <;> omega)).trans (by simp [go_sem])
  have c1_2_1:w1.cell? ⟨w.heap.size+1+1,1,none⟩ = some (.int .i64 0):=(kc1 _ _ (by simp <;> omega)).trans (by simp [go_sem])
  have f1_0_0:w1.frozen? ⟨w.heap.size,0,none⟩ = false:=(kf1 _ _ (by simp <;> omega)).trans (by simp [go_sem])
  have f1_0_1:w1.frozen? ⟨w.heap.size,1,none⟩ = false:=(kf1 _ _ (by simp <;> omega)).trans (by simp [go_sem])
  have f1_1_0:w1.frozen? ⟨w.heap.size+1,0,none⟩ = false:=(kf1 _ _ (by simp <;> omega)).trans (by simp [go_sem])
  have f1_1_1:w1.frozen? ⟨w.heap.size+1,1,none⟩ = false:=(kf1 _ _ (by simp <;> omega)).trans (by simp [go_sem])
  have f1_2_0:w1.frozen? ⟨w.heap.size+1+1,0,none⟩ = false:=(kf1 _ _ (by simp <;> omega)).trans (by simp [go_sem])
  have f1_2_1:w1.frozen? ⟨w.heap.size+1+1,1,none⟩ = false:=(kf1 _ _ (by simp <;> omega)).trans (by simp [go_sem])
  have hT1:Below w.heap.size w w1:=below_then ((((Below.refl w.heap.size w).alloc (by go_size) _).alloc (by go_size) _).alloc (by go_size) _) hB1
  clear kc1 kf1 hB1 hz1
  go_wp2_with (fail)
  refine (iv_entire _).mono ?_
  rintro e2 w2 ⟨rfl,hB2⟩
  obtain ⟨kc2,kf2⟩:=bcell hB2
  have hz2:=hB2.size
  have hs2_0:w.heap.size < w2.heap.size:=by omega
  have hs2_1:w.heap.size+1 < w2.heap.size:=by omega
  have hs2_2:w.heap.size+1+1 < w2.heap.size:=by omega
  have c2_0_0:w2.cell? ⟨w.heap.size,0,none⟩ = some (.int .i64 (-2147483648)):=(kc2 _ _ hs1_0).trans c1_0_0
  have c2_0_1:w2.cell? ⟨w.heap.size,1,none⟩ = some (.int .i64 2147483648):=(kc2 _ _ hs1_0).trans c1_0_1
  have c2_1_0:w2.cell? ⟨w.heap.size+1,0,none⟩ = some (.int .i64 c):=(kc2 _ _ hs1_1).trans c1_1_0
  have c2_1_1:w2.cell? ⟨w.heap.size+1,1,none⟩ = some (.int .i64 d):=(kc2 _ _ hs1_1).trans c1_1_1
  have c2_2_0:w2.cell? ⟨w.heap.size+1+1,0,none⟩ = some (.int .i64 0):=(kc2 _ _ hs1_2).trans c1_2_0
  have c2_2_1:w2.cell? ⟨w.heap.size+1+1,1,none⟩ = some (.int .i64 0):=(kc2 _ _ hs1_2).trans c1_2_1
  have f2_0_0:w2.frozen? ⟨w.heap.size,0,none⟩ = false:=(kf2 _ _ hs1_0).trans f1_0_0
  have f2_0_1:w2.frozen? ⟨w.heap.size,1,none⟩ = false:=(kf2 _ _ hs1_0).trans f1_0_1
  have f2_1_0:w2.frozen? ⟨w.heap.size+1,0,none⟩ = false:=(kf2 _ _ hs1_1).trans f1_1_0
  have f2_1_1:w2.frozen? ⟨w.heap.size+1,1,none⟩ = false:=(kf2 _ _ hs1_1).trans f1_1_1
  have f2_2_0:w2.frozen? ⟨w.heap.size+1+1,0,none⟩ = false:=(kf2 _ _ hs1_2).trans f1_2_0
  have f2_2_1:w2.frozen? ⟨w.heap.size+1+1,1,none⟩ = false:=(kf2 _ _ hs1_2).trans f1_2_1
  have hT2:Below w.heap.size w w2:=below_then hT1 hB2
  clear kc2 kf2 hB2 hz2
  clear c1_0_0 f1_0_0 c1_0_1 f1_0_1 c1_1_0 f1_1_0 c1_1_1 f1_1_1 c1_2_0 f1_2_0 c1_2_1 f1_2_1 hT1 hs1_0 hs1_1 hs1_2
  go_wp2_with (fail)
  refine bodyPost_ret (v:=.agg #[.int .i64 (-2147483648),.int .i64 2147483648]) (by simp [results,Tryz.results165,go_sem,c2_2_0,c2_2_1]) rfl ⟨rfl,?_⟩
  go_grown
 by_cases h2:Ent c d
 ·rw [if_pos (.inr h2),if_pos (.inr h2)]
  obtain ⟨rfl,rfl⟩:=h2
  have h1':=Lib.hid h1
  clear h1
  go_enter Tryz.func165,Tryz.ntmps165
  go_wp2_with (fail)
  refine (iv_ent_no a b _ h1'.out).mono ?_
  rintro e1 w1 ⟨rfl,hB1⟩
  obtain ⟨kc1,kf1⟩:=bcell hB1
  have hz1:=hB1.size
  simp only [World.size_alloc] at hz1
  have hs1_0:w.heap.size < w1.heap.size:=by omega
  have hs1_1:w.heap.size+1 < w1.heap.size:=by omega
  have hs1_2:w.heap.size+1+1 < w1.heap.size:=by omega
  have c1_0_0:w1.cell? ⟨w.heap.size,0,none⟩ = some (.int .i64 a):=(kc1 _ _ (by simp <;> omega)).trans (by simp [go_sem])
  have c1_0_1:w1.cell? ⟨w.heap.size,1,none⟩ = some (.int .i64 b):=(kc1 _ _ (by simp <;> omega)).trans (by simp [go_sem])
  have c1_1_0:w1.cell? ⟨w.heap.size+1,0,none⟩ = some (.int .i64 (-2147483648)):=(kc1 _ _ (by simp <;> omega)).trans (by simp [go_sem])
  have c1_1_1:w1.cell? ⟨w.heap.size+1,1,none⟩ = some (.int .i64 2147483648):=(kc1 _ _ (by simp <;> omega)).trans (by simp [go_sem])
  have c1_2_0:w1.cell? ⟨w.heap.size+1+1,0,none⟩ = some (.int .i64 0):=(kc1 _ _ (by simp <;> omega)).trans (by simp [go_sem])
  have c1_2_1:w1.cell? ⟨w.heap.size+1+1,1,none⟩ = some (.int .i64 0):=(kc1 _ _ (by simp <;> omega)).trans (by simp [go_sem])
  have f1_0_0:w1.frozen? ⟨w.heap.size,0,none⟩ = false:=(kf1 _ _ (by simp <;> omega)).trans (by simp [go_sem])
  have f1_0_1:w1.frozen? ⟨w.heap.size,1,none⟩ = false:=(kf1 _ _ (by simp <;> omega)).trans (by simp [go_sem])
  have f1_1_0:w1.frozen? ⟨w.heap.size+1,0,none⟩ = false:=(kf1 _ _ (by simp <;> omega)).trans (by simp [go_sem])
  have f1_1_1:w1.frozen? ⟨w.heap.size+1,1,none⟩ = false:=(kf1 _ _ (by simp <;> omega)).trans (by simp [go_sem])
  have f1_2_0:w1.frozen? ⟨w.heap.size+1+1,0,none⟩ = false:=(kf1 _ _ (by simp <;> omega)).trans (by simp [go_sem])
  have f1_2_1:w1.frozen? ⟨w.heap.size+1+1,1,none⟩ = false:=(kf1 _ _ (by simp <;> omega)).trans (by simp [go_sem])
  have hT1:Below w.heap.size w w1:=below_then ((((Below.refl w.heap.size w).alloc (by go_size) _).alloc (by go_size) _).alloc (by go_size) _) hB1
  clear kc1 kf1 hB1 hz1
  go_wp2_with (fail)
  refine (iv_ent_yes _).mono ?_
  rintro e2 w2 ⟨rfl,hB2⟩
  obtain ⟨kc2,kf2⟩:=bcell hB2
  have hz2:=hB2.size
  have hs2_0:w.heap.size < w2.heap.size:=by omega
  have hs2_1:w.heap.size+1 < w2.heap.size:=by omega
  have hs2_2:w.heap.size+1+1 < w2.heap.size:=by omega
  have c2_0_0:w2.cell? ⟨w.heap.size,0,none⟩ = some (.int .i64 a):=(kc2 _ _ hs1_0).trans c1_0_0
  have c2_0_1:w2.cell? ⟨w.heap.size,1,none⟩ = some (.int .i64 b):=(kc2 _ _ hs1_0).trans c1_0_1
  have c2_1_0:w2.cell? ⟨w.heap.size+1,0,none⟩ = some (.int .i64 (-2147483648)):=(kc2 _ _ hs1_1).trans c1_1_0
  have c2_1_1:w2.cell? ⟨w.heap.size+1,1,none⟩ = some (.int .i64 2147483648):=(kc2 _ _ hs1_1).trans c1_1_1
  have c2_2_0:w2.cell? ⟨w.heap.size+1+1,0,none⟩ = some (.int .i64 0):=(kc2 _ _ hs1_2).trans c1_2_0
  have c2_2_1:w2.cell? ⟨w.heap.size+1+1,1,none⟩ = some (.int .i64 0):=(kc2 _ _ hs1_2).trans c1_2_1
  have f2_0_0:w2.frozen? ⟨w.heap.size,0,none⟩ = false:=(kf2 _ _ hs1_0).trans f1_0_0
  have f2_0_1:w2.frozen? ⟨w.heap.size,1,none⟩ = false:=(kf2 _ _ hs1_0).trans f1_0_1
  have f2_1_0:w2.frozen? ⟨w.heap.size+1,0,none⟩ = false:=(kf2 _ _ hs1_1).trans f1_1_0
  have f2_1_1:w2.frozen? ⟨w.heap.size+1,1,none⟩ = false:=(kf2 _ _ hs1_1).trans f1_1_1
  have f2_2_0:w2.frozen? ⟨w.heap.size+1+1,0,none⟩ = false:=(kf2 _ _ hs1_2).trans f1_2_0
  have f2_2_1:w2.frozen? ⟨w.heap.size+1+1,1,none⟩ = false:=(kf2 _ _ hs1_2).trans f1_2_1
  have hT2:Below w.heap.size w w2:=below_then hT1 hB2
  clear kc2 kf2 hB2 hz2
  clear c1_0_0 f1_0_0 c1_0_1 f1_0_1 c1_1_0 f1_1_0 c1_1_1 f1_1_1 c1_2_0 f1_2_0 c1_2_1 f1_2_1 hT1 hs1_0 hs1_1 hs1_2
  go_wp2_with (fail)
  refine (iv_entire _).mono ?_
  rintro e3 w3 ⟨rfl,hB3⟩
  obtain ⟨kc3,kf3⟩:=bcell hB3
  have hz3:=hB3.size
  have hs3_0:w.heap.size < w3.heap.size:=by omega
  have hs3_1:w.heap.size+1 < w3.heap.size:=by omega
  have hs3_2:w.heap.size+1+1 < w3.heap.size:=by omega
  have c3_0_0:w3.cell? ⟨w.heap.size,0,none⟩ = some (.int .i64 a):=(kc3 _ _ hs2_0).trans c2_0_0
  have c3_0_1:w3.cell? ⟨w.heap.size,1,none⟩ = some (.int .i64 b):=(kc3 _ _ hs2_0).trans c2_0_1
  have c3_1_0:w3.cell? ⟨w.heap.size+1,0,none⟩ = some (.int .i64 (-2147483648)):=(kc3 _ _ hs2_1).trans c2_1_0
  have c3_1_1:w3.cell? ⟨w.heap.size+1,1,none⟩ = some (.int .i64 2147483648):=(kc3 _ _ hs2_1).trans c2_1_1
  have c3_2_0:w3.cell? ⟨w.heap.size+1+1,0,none⟩ = some (.int .i64 0):=(kc3 _ _ hs2_2).trans c2_2_0
  have c3_2_1:w3.cell? ⟨w.heap.size+1+1,1,none⟩ = some (.int .i64 0):=(kc3 _ _ hs2_2).trans c2_2_1
  have f3_0_0:w3.frozen? ⟨w.heap.size,0,none⟩ = false:=(kf3 _ _ hs2_0).trans f2_0_0
  have f3_0_1:w3.frozen? ⟨w.heap.size,1,none⟩ = false:=(kf3 _ _ hs2_0).trans f2_0_1
  have f3_1_0:w3.frozen? ⟨w.heap.size+1,0,none⟩ = false:=(kf3 _ _ hs2_1).trans f2_1_0
  have f3_1_1:w3.frozen? ⟨w.heap.size+1,1,none⟩ = false:=(kf3 _ _ hs2_1).trans f2_1_1
  have f3_2_0:w3.frozen? ⟨w.heap.size+1+1,0,none⟩ = false:=(kf3 _ _ hs2_2).trans f2_2_0
  have f3_2_1:w3.frozen? ⟨w.heap.size+1+1,1,none⟩ = false:=(kf3 _ _ hs2_2).trans f2_2_1
  have hT3:Below w.heap.size w w3:=below_then hT2 hB3
  clear kc3 kf3 hB3 hz3
  clear c2_0_0 f2_0_0 c2_0_1 f2_0_1 c2_1_0 f2_1_0 c2_1_1 f2_1_1 c2_2_0 f2_2_0 c2_2_1 f2_2_1 hT2 hs2_0 hs2_1 hs2_2
  go_wp2_with (fail)
  refine bodyPost_ret (v:=.agg #[.int .i64 (-2147483648),.int .i64 2147483648]) (by simp [results,Tryz.results165,go_sem,c3_2_0,c3_2_1]) rfl ⟨rfl,?_⟩
  go_grown
 ·rw [if_neg (by intro h; rcases h with h | h; exact h1 h; exact h2 h),if_neg (by intro h; rcases h with h | h; exact h1 h; exact h2 h)]
  have h1':=Lib.hid h1
  have h2':=Lib.hid h2
  have c3:=fun w=>iv_new (a+c) (b+d) w (by omega)
  clear h1 h2
  generalize mkLo (a+c) (b+d) = p at *
  generalize mkHi (a+c) (b+d) = q at *
  go_enter Tryz.func165,Tryz.ntmps165
  go_wp2_with (fail)
  refine (iv_ent_no a b _ h1'.out).mono ?_
  rintro e1 w1 ⟨rfl,hB1⟩
  obtain ⟨kc1,kf1⟩:=bcell hB1
  have hz1:=hB1.size
  simp only [World.size_alloc] at hz1
  have hs1_0:w.heap.size < w1.heap.size:=by omega
  have hs1_1:w.heap.size+1 < w1.heap.size:=by omega
  have hs1_2:w.heap.size+1+1 < w1.heap.size:=by omega
  have c1_0_0:w1.cell? ⟨w.heap.size,0,none⟩ = some (.int .i64 a):=(kc1 _ _ (by simp <;> omega)).trans (by simp [go_sem])
  have c1_0_1:w1.cell? ⟨w.heap.size,1,none⟩ = some (.int .i64 b):=(kc1 _ _ (by simp <;> omega)).trans (by simp [go_sem])
  have c1_1_0:w1.cell? ⟨w.heap.size+1,0,none⟩ = some (.int .i64 c):=(kc1 _ _ (by simp <;> omega)).trans (by simp [go_sem])
  have c1_1_1:w1.cell? ⟨w.heap.size+1,1,none⟩ = some (.int .i64 d):=(kc1 _ _ (by simp <;> omega)).trans (by simp [go_sem])
  have c1_2_0:w1.cell? ⟨w.heap.size+1+1,0,none⟩ = some (.int .i64 0):=(kc1 _ _ (by simp <;> omega)).trans (by simp [go_sem])
  have c1_2_1:w1.cell? ⟨w.heap.size+1+1,1,none⟩ = some (.int .i64 0):=(kc1 _ _ (by simp <;> omega)).trans (by simp [go_sem])
  have f1_0_0:w1.frozen? ⟨w.heap.size,0,none⟩ = false:=(kf1 _ _ (by simp <;> omega)).trans (by simp [go_sem])
  have f1_0_1:w1.frozen? ⟨w.heap.size,1,none⟩ = false:=(kf1 _ _ (by simp <;> omega)).trans (by simp [go_sem])
  have f1_1_0:w1.frozen? ⟨w.heap.size+1,0,none⟩ = false:=(kf1 _ _ (by simp <;> omega)).trans (by simp [go_sem])
  have f1_1_1:w1.frozen? ⟨w.heap.size+1,1,none⟩ = false:=(kf1 _ _ (by simp <;> omega)).trans (by simp [go_sem])
  have f1_2_0:w1.frozen? ⟨w.heap.size+1+1,0,none⟩ = false:=(kf1 _ _ (by simp <;> omega)).trans (by simp [go_sem])
  have f1_2_1:w1.frozen? ⟨w.heap.size+1+1,1,none⟩ = false:=(kf1 _ _ (by simp <;> omega)).trans (by simp [go_sem])
  have hT1:Below w.heap.size w w1:=below_then ((((Below.refl w.heap.size w).alloc (by go_size) _).alloc (by go_size) _).alloc (by go_size) _) hB1
  clear kc1 kf1 hB1 hz1
  go_wp2_with (fail)
  refine (iv_ent_no c d _ h2'.out).mono ?_
  rintro e2 w2 ⟨rfl,hB2⟩
  obtain ⟨kc2,kf2⟩:=bcell hB2
  have hz2:=hB2.size
  have hs2_0:w.heap.size < w2.heap.size:=by omega
  have hs2_1:w.heap.size+1 < w2.heap.size:=by omega
  have hs2_2:w.heap.size+1+1 < w2.heap.size:=by omega
  have c2_0_0:w2.cell? ⟨w.heap.size,0,none⟩ = some (.int .i64 a):=(kc2 _ _ hs1_0).trans c1_0_0
  have c2_0_1:w2.cell? ⟨w.heap.size,1,none⟩ = some (.int .i64 b):=(kc2 _ _ hs1_0).trans c1_0_1
  have c2_1_0:w2.cell? ⟨w.heap.size+1,0,none⟩ = some (.int .i64 c):=(kc2 _ _ hs1_1).trans c1_1_0
  have c2_1_1:w2.cell? ⟨w.heap.size+1,1,none⟩ = some (.int .i64 d):=(kc2 _ _ hs1_1).trans c1_1_1
  have c2_2_0:w2.cell? ⟨w.heap.size+1+1,0,none⟩ = some (.int .i64 0):=(kc2 _ _ hs1_2).trans c1_2_0
  have c2_2_1:w2.cell? ⟨w.heap.size+1+1,1,none⟩ = some (.int .i64 0):=(kc2 _ _ hs1_2).trans c1_2_1
  have f2_0_0:w2.frozen? ⟨w.heap.size,0,none⟩ = false:=(kf2 _ _ hs1_0).trans f1_0_0
  have f2_0_1:w2.frozen? ⟨w.heap.size,1,none⟩ = false:=(kf2 _ _ hs1_0).trans f1_0_1
  have f2_1_0:w2.frozen? ⟨w.heap.size+1,0,none⟩ = false:=(kf2 _ _ hs1_1).trans f1_1_0
  have f2_1_1:w2.frozen? ⟨w.heap.size+1,1,none⟩ = false:=(kf2 _ _ hs1_1).trans f1_1_1
  have f2_2_0:w2.frozen? ⟨w.heap.size+1+1,0,none⟩ = false:=(kf2 _ _ hs1_2).trans f1_2_0
  have f2_2_1:w2.frozen? ⟨w.heap.size+1+1,1,none⟩ = false:=(kf2 _ _ hs1_2).trans f1_2_1
  have hT2:Below w.heap.size w w2:=below_then hT1 hB2
  clear kc2 kf2 hB2 hz2
  clear c1_0_0 f1_0_0 c1_0_1 f1_0_1 c1_1_0 f1_1_0 c1_1_1 f1_1_1 c1_2_0 f1_2_0 c1_2_1 f1_2_1 hT1 hs1_0 hs1_1 hs1_2
  go_wp2_with (fail)
  refine (c3 _).mono ?_
  rintro e3 w3 ⟨rfl,hB3⟩
  obtain ⟨kc3,kf3⟩:=bcell hB3
  have hz3:=hB3.size
  have hs3_0:w.heap.size < w3.heap.size:=by omega
  have hs3_1:w.heap.size+1 < w3.heap.size:=by omega
  have hs3_2:w.heap.size+1+1 < w3.heap.size:=by omega
  have c3_0_0:w3.cell? ⟨w.heap.size,0,none⟩ = some (.int .i64 a):=(kc3 _ _ hs2_0).trans c2_0_0
  have c3_0_1:w3.cell? ⟨w.heap.size,1,none⟩ = some (.int .i64 b):=(kc3 _ _ hs2_0).trans c2_0_1
  have c3_1_0:w3.cell? ⟨w.heap.size+1,0,none⟩ = some (.int .i64 c):=(kc3 _ _ hs2_1).trans c2_1_0
  have c3_1_1:w3.cell? ⟨w.heap.size+1,1,none⟩ = some (.int .i64 d):=(kc3 _ _ hs2_1).trans c2_1_1
  have c3_2_0:w3.cell? ⟨w.heap.size+1+1,0,none⟩ = some (.int .i64 0):=(kc3 _ _ hs2_2).trans c2_2_0
  have c3_2_1:w3.cell? ⟨w.heap.size+1+1,1,none⟩ = some (.int .i64 0):=(kc3 _ _ hs2_2).trans c2_2_1
  have f3_0_0:w3.frozen? ⟨w.heap.size,0,none⟩ = false:=(kf3 _ _ hs2_0).trans f2_0_0
  have f3_0_1:w3.frozen? ⟨w.heap.size,1,none⟩ = false:=(kf3 _ _ hs2_0).trans f2_0_1
  have f3_1_0:w3.frozen? ⟨w.heap.size+1,0,none⟩ = false:=(kf3 _ _ hs2_1).trans f2_1_0
  have f3_1_1:w3.frozen? ⟨w.heap.size+1,1,none⟩ = false:=(kf3 _ _ hs2_1).trans f2_1_1
  have f3_2_0:w3.frozen? ⟨w.heap.size+1+1,0,none⟩ = false:=(kf3 _ _ hs2_2).trans f2_2_0
  have f3_2_1:w3.frozen? ⟨w.heap.size+1+1,1,none⟩ = false:=(kf3 _ _ hs2_2).trans f2_2_1
  have hT3:Below w.heap.size w w3:=below_then hT2 hB3
  clear kc3 kf3 hB3 hz3
  clear c2_0_0 f2_0_0 c2_0_1 f2_0_1 c2_1_0 f2_1_0 c2_1_1 f2_1_1 c2_2_0 f2_2_0 c2_2_1 f2_2_1 hT2 hs2_0 hs2_1 hs2_2
  go_wp2_with (fail)
  refine bodyPost_ret (v:=.agg #[.int .i64 p,.int .i64 q]) (by simp [results,Tryz.results165,go_sem,c3_2_0,c3_2_1]) rfl ⟨rfl,?_⟩
  go_grown

theorem VI.neg {a b:Int} (h:VI a b):VI (-b) (-a):=by
 unfold VI Ent Num at *; omega

end Go.Proofs.YtdfdpghdjlgghaaGreat
