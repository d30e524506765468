/-
 Iw6
-/
import Derived.Test.YtdfdpghdjlgghaaGreatKdh
namespace Go.Proofs.YtdfdpghdjlgghaaGreat
open Go.ChangeShapes Go.WideShapes Go.ChangeAt Go.RowKit
set_option linter.unusedVariables false
set_option linter.unusedSimpArgs false
set_option maxRecDepth 100000
set_option maxHeartbeats 1000000 in
theorem iv_hull_00 (a b c d:Int) (w:World) (h1:a < c) (h2:b < d) (c1:∀ w,Calls Tryz.prog 83 #[.int .i64 a,.int .i64 d] w fun e w'=>e = .returned (.agg #[.int .i64 a,.int .i64 d])∧Below w.heap.size w w') :
  Calls Tryz.prog 108 #[.agg #[.int .i64 a,.int .i64 b],.agg #[.int .i64 c,.int .i64 d]] w fun e w'=>e = .returned (.agg #[.int .i64 a,.int .i64 d])∧Below w.heap.size w w':=by
 go_enter Tryz.func108,Tryz.ntmps108
 go_wp2_with (fail)
 refine (c1 _).mono ?_
 rintro e1 w1 ⟨rfl,hB1⟩
 obtain ⟨kc1,kf1⟩:=bcell hB1
 have hz1:=hB1.size
 simp only [World.size_alloc] at hz1
 have hs1_0:w.heap.size < w1.heap.size:=by omega
 have hs1_1:w.heap.size+1 < w1.heap.size:=by omega
 have hs1_2:w.heap.size+1+1 < w1.heap.size:=by omega
 have c1_0_0:w1.cell? ⟨w.heap.size,0,none⟩ = some (.int .i64 a):=(kc1 _ _ (by simp <;> omega)).trans (by simp [go_sem])
 have c1_0_1:w1.cell? ⟨w.heap.size,1,none⟩ = some (.int .i64 b):=(kc1 _ _ (by simp <;> omega)).trans (by simp [go_sem])
 have c1_1_0:w1.cell? ⟨w.heap.size+1,0,none⟩ = some (.int .i64 c):=(kc1 _ _ (by simp <;> omega)).trans (by simp [go_sem])
 have c1_1_1:w1.cell? ⟨w.heap.size+1,1,none⟩ = some (.int .i64 d):=(kc1 _ _ (by simp <;> omega)).trans (by simp [go_sem])
 have c1_2_0:w1.cell? ⟨w.heap.size+1+1,0,none⟩ = some (.int .i64 0):=(kc1 _ _ (by simp <;> omega)).trans (by simp [go_sem])
 have c1_2_1:w1.cell? ⟨w.heap.size+1+1,1,none⟩ = some (.int .i64 0):=(kc1 _ _ (by simp <;> omega)).trans (by simp [go_sem])
 have f1_0_0:w1.frozen? ⟨w.heap.size,0,none⟩ = false:=(kf1 _ _ (by simp <;> omega)).trans (by simp [go_sem])
 have f1_0_1:w1.frozen? ⟨w.heap.size,1,none⟩ = false:=(kf1 _ _ (by simp <;> omega)).trans (by simp [go_sem])
 have f1_1_0:w1.frozen? ⟨w.heap.size+1,0,none⟩ = false:=(kf1 _ _ (by simp <;> omega)).trans (by simp [go_sem])
 have f1_1_1:w1.frozen? ⟨w.heap.size+1,1,none⟩ = false:=(kf1 _ _ (by simp <;> omega)).trans (by simp [go_sem])
 have f1_2_0:w1.frozen? ⟨w.heap.size+1+1,0,none⟩ = false:=(kf1 _ _ (by simp <;> omega)).trans (by simp [go_sem])
 have f1_2_1:w1.frozen? ⟨w.heap.size+1+1,1,none⟩ = false:=(kf1 _ _ (by simp <;> omega)).trans (by simp [go_sem])
 have hT1:Below w.heap.size w w1:=below_then ((((Below.refl w.heap.size w).alloc (by go_size) _).alloc (by go_size) _).alloc (by go_size) _) hB1
 clear kc1 kf1 hB1 hz1
 go_wp2_with (fail)
 refine bodyPost_ret (v:=.agg #[.int .i64 a,.int .i64 d]) (by simp [results,Tryz.results108,go_sem,c1_2_0,c1_2_1]) rfl ⟨rfl,?_⟩
 go_grown

set_option maxHeartbeats 1000000 in
theorem iv_hull_01 (a b c d:Int) (w:World) (h1:a < c) (h2:b = d) (c1:∀ w,Calls Tryz.prog 83 #[.int .i64 a,.int .i64 b] w fun e w'=>e = .returned (.agg #[.int .i64 a,.int .i64 b])∧Below w.heap.size w w') :
  Calls Tryz.prog 108 #[.agg #[.int .i64 a,.int .i64 b],.agg #[.int .i64 c,.int .i64 d]] w fun e w'=>e = .returned (.agg #[.int .i64 a,.int .i64 b])∧Below w.heap.size w w':=by
 subst h2
 go_enter Tryz.func108,Tryz.ntmps108
 go_wp2_with (fail)
 refine (c1 _).mono ?_
 rintro e1 w1 ⟨rfl,hB1⟩
 obtain ⟨kc1,kf1⟩:=bcell hB1
 have hz1:=hB1.size
 simp only [World.size_alloc] at hz1
 have hs1_0:w.heap.size < w1.heap.size:=by omega
 have hs1_1:w.heap.size+1 < w1.heap.size:=by omega
 have hs1_2:w.heap.size+1+1 < w1.heap.size:=by omega
 have c1_0_0:w1.cell? ⟨w.heap.size,0,none⟩ = some (.int .i64 a):=(kc1 _ _ (by simp <;> omega)).trans (by simp [go_sem])
 have c1_0_1:w1.cell? ⟨w.heap.size,1,none⟩ = some (.int .i64 b):=(kc1 _ _ (by simp <;> omega)).trans (by simp [go_sem])
 have c1_1_0:w1.cell? ⟨w.heap.size+1,0,none⟩ = some (.int .i64 c):=(kc1 _ _ (by simp <;> omega)).trans (by simp [go_sem])
 have c1_1_1:w1.cell? ⟨w.heap.size+1,1,none⟩ = some (.int .i64 b):=(kc1 _ _ (by simp <;> omega)).trans (by simp [go_sem])
 have c1_2_0:w1.cell? ⟨w.heap.size+1+1,0,none⟩ = some (.int .i64 0):=(kc1 _ _ (by simp <;> omega)).trans (by simp [go_sem])
 have c1_2_1:w1.cell? ⟨w.heap.size+1+1,1,none⟩ = some (.int .i64 0):=(kc1 _ _ (by simp <;> omega)).trans (by simp [go_sem])
 have f1_0_0:w1.frozen? ⟨w.heap.size,0,none⟩ = false:=(kf1 _ _ (by simp <;> omega)).trans (by simp [go_sem])
 have f1_0_1:w1.frozen? ⟨w.heap.size,1,none⟩ = false:=(kf1 _ _ (by simp <;> omega)).trans (by simp [go_sem])
 have f1_1_0:w1.frozen? ⟨w.heap.size+1,0,none⟩ = false:=(kf1 _ _ (by simp <;> omega)).trans (by simp [go_sem])
 have f1_1_1:w1.frozen? ⟨w.heap.size+1,1,none⟩ = false:=(kf1 _ _ (by simp <;> omega)).trans (by simp [go_sem])
 have f1_2_0:w1.frozen? ⟨w.heap.size+1+1,0,none⟩ = false:=(kf1 _ _ (by simp <;> omega)).trans (by simp [go_sem])
 have f1_2_1:w1.frozen? ⟨w.heap.size+1+1,1,none⟩ = false:=(kf1 _ _ (by simp <;> omega)).trans (by simp [go_sem])
 have hT1:Below w.heap.size w w1:=below_then ((((Below.refl w.heap.size w).alloc (by go_size) _).alloc (by go_size) _).alloc (by go_size) _) hB1
 clear kc1 kf1 hB1 hz1
 go_wp2_with (fail)
 refine bodyPost_ret (v:=.agg #[.int .i64 a,.int .i64 b]) (by simp [results,Tryz.results108,go_sem,c1_2_0,c1_2_1]) rfl ⟨rfl,?_⟩
 go_grown

set_option maxHeartbeats 1000000 in
theorem iv_hull_02 (a b c d:Int) (w:World) (h1:a < c) (h2:d < b) (c1:∀ w,Calls Tryz.prog 83 #[.int .i64 a,.int .i64 b] w fun e w'=>e = .returned (.agg #[.int .i64 a,.int .i64 b])∧Below w.heap.size w w') :
  Calls Tryz.prog 108 #[.agg #[.int .i64 a,.int .i64 b],.agg #[.int .i64 c,.int .i64 d]] w fun e w'=>e = .returned (.agg #[.int .i64 a,.int .i64 b])∧Below w.heap.size w w':=by
 go_enter Tryz.func108,Tryz.ntmps108
 go_wp2_with (fail)
 refine (c1 _).mono ?_
 rintro e1 w1 ⟨rfl,hB1⟩
 obtain ⟨kc1,kf1⟩:=bcell hB1
 have hz1:=hB1.size
 simp only [World.size_alloc] at hz1
 have hs1_0:w.heap.size < w1.heap.size:=by omega
 have hs1_1:w.heap.size+1 < w1.heap.size:=by omega
 have hs1_2:w.heap.size+1+1 < w1.heap.size:=by omega
 have c1_0_0:w1.cell? ⟨w.heap.size,0,none⟩ = some (.int .i64 a):=(kc1 _ _ (by simp <;> omega)).trans (by simp [go_sem])
 have c1_0_1:w1.cell? ⟨w.heap.size,1,none⟩ = some (.int .i64 b):=(kc1 _ _ (by simp <;> omega)).trans (by simp [go_sem])
 have c1_1_0:w1.cell? ⟨w.heap.size+1,0,none⟩ = some (.int .i64 c):=(kc1 _ _ (by simp <;> omega)).trans (by simp [go_sem])
 have c1_1_1:w1.cell? ⟨w.heap.size+1,1,none⟩ = some (.int .i64 d):=(kc1 _ _ (by simp <;> omega)).trans (by simp [go_sem])
 have c1_2_0:w1.cell? ⟨w.heap.size+1+1,0,none⟩ = some (.int .i64 0):=(kc1 _ _ (by simp <;> omega)).trans (by simp [go_sem])
 have c1_2_1:w1.cell? ⟨w.heap.size+1+1,1,none⟩ = some (.int .i64 0):=(kc1 _ _ (by simp <;> omega)).trans (by simp [go_sem])
 have f1_0_0:w1.frozen? ⟨w.heap.size,0,none⟩ = false:=(kf1 _ _ (by simp <;> omega)).trans (by simp [go_sem])
 have f1_0_1:w1.frozen? ⟨w.heap.size,1,none⟩ = false:=(kf1 _ _ (by simp <;> omega)).trans (by simp [go_sem])
 have f1_1_0:w1.frozen? ⟨w.heap.size+1,0,none⟩ = false:=(kf1 _ _ (by simp <;> omega)).trans (by simp [go_sem])
 have f1_1_1:w1.frozen? ⟨w.heap.size+1,1,none⟩ = false:=(kf1 _ _ (by simp <;> omega)).trans (by simp [go_sem])
 have f1_2_0:w1.frozen? ⟨w.heap.size+1+1,0,none⟩ = false:=(kf1 _ _ (by simp <;> omega)).trans (by simp [go_sem])
 have f1_2_1:w1.frozen? ⟨w.heap.size+1+1,1,none⟩ = false:=(kf1 _ _ (by simp <;> omega)).trans (by simp [go_sem])
 have hT1:Below w.heap.size w w1:=below_then ((((Below.refl w.heap.size w).alloc (by go_size) _).alloc (by go_size) _).alloc (by go_size) _) hB1
 clear kc1 kf1 hB1 hz1
 go_wp2_with (fail)
 refine bodyPost_ret (v:=.agg #[.int .i64 a,.int .i64 b]) (by simp [results,Tryz.results108,go_sem,c1_2_0,c1_2_1]) rfl ⟨rfl,?_⟩
 go_grown

set_option maxHeartbeats 1000000 in
theorem iv_hull_10 (a b c d:Int) (w:World) (h1:a = c) (h2:b < d) (c1:∀ w,Calls Tryz.prog 83 #[.int .i64 a,.int .i64 d] w fun e w'=>e = .returned (.agg #[.int .i64 a,.int .i64 d])∧Below w.heap.size w w') :
  Calls Tryz.prog 108 #[.agg #[.int .i64 a,.int .i64 b],.agg #[.int .i64 c,.int .i64 d]] w fun e w'=>e = .returned (.agg #[.int .i64 a,.int .i64 d])∧Below w.heap.size w w':=by
 subst h1
 go_enter Tryz.func108,Tryz.ntmps108
 go_wp2_with (fail)
 refine (c1 _).mono ?_
 rintro e1 w1 ⟨rfl,hB1⟩
 obtain ⟨kc1,kf1⟩:=bcell hB1
 have hz1:=hB1.size
 simp only [World.size_alloc] at hz1
 have hs1_0:w.heap.size < w1.heap.size:=by omega
 have hs1_1:w.heap.size+1 < w1.heap.size:=by omega
 have hs1_2:w.heap.size+1+1 < w1.heap.size:=by omega
 have c1_0_0:w1.cell? ⟨w.heap.size,0,none⟩ = some (.int .i64 a):=(kc1 _ _ (by simp <;> omega)).trans (by simp [go_sem])
 have c1_0_1:w1.cell? ⟨w.heap.size,1,none⟩ = some (.int .i64 b):=(kc1 _ _ (by simp <;> omega)).trans (by simp [go_sem])
 have c1_1_0:w1.cell? ⟨w.heap.size+1,0,none⟩ = some (.int .i64 a):=(kc1 _ _ (by simp <;> omega)).trans (by simp [go_sem])
 have c1_1_1:w1.cell? ⟨w.heap.size+1,1,none⟩ = some (.int .i64 d):=(kc1 _ _ (by simp <;> omega)).trans (by simp [go_sem])
 have c1_2_0:w1.cell? ⟨w.heap.size+1+1,0,none⟩ = some (.int .i64 0):=(kc1 _ _ (by simp <;> omega)).trans (by simp [go_sem])
 have c1_2_1:w1.cell? ⟨w.heap.size+1+1,1,none⟩ = some (.int .i64 0):=(kc1 _ _ (by simp <;> omega)).trans (by simp [go_sem])
 have f1_0_0:w1.frozen? ⟨w.heap.size,0,none⟩ = false:=(kf1 _ _ (by simp <;> omega)).trans (by simp [go_sem])
 have f1_0_1:w1.frozen? ⟨w.heap.size,1,none⟩ = false:=(kf1 _ _ (by simp <;> omega)).trans (by simp [go_sem])
 have f1_1_0:w1.frozen? ⟨w.heap.size+1,0,none⟩ = false:=(kf1 _ _ (by simp <;> omega)).trans (by simp [go_sem])
 have f1_1_1:w1.frozen? ⟨w.heap.size+1,1,none⟩ = false:=(kf1 _ _ (by simp <;> omega)).trans (by simp [go_sem])
 have f1_2_0:w1.frozen? ⟨w.heap.size+1+1,0,none⟩ = false:=(kf1 _ _ (by simp <;> omega)).trans (by simp [go_sem])
 have f1_2_1:w1.frozen? ⟨w.heap.size+1+1,1,none⟩ = false:=(kf1 _ _ (by simp <;> omega)).trans (by simp [go_sem])
 have hT1:Below w.heap.size w w1:=below_then ((((Below.refl w.heap.size w).alloc (by go_size) _).alloc (by go_size) _).alloc (by go_size) _) hB1
 clear kc1 kf1 hB1 hz1
 go_wp2_with (fail)
 refine bodyPost_ret (v:=.agg #[.int .i64 a,.int .i64 d]) (by simp [results,Tryz.results108,go_sem,c1_2_0,c1_2_1]) rfl ⟨rfl,?_⟩
 go_grown

set_option maxHeartbeats 1000000 in
theorem iv_hull_11 (a b c d:Int) (w:World) (h1:a = c) (h2:b = d) (c1:∀ w,Calls Tryz.prog 83 #[.int .i64 a,.int .i64 b] w fun e w'=>e = .returned (.agg #[.int .i64 a,.int .i64 b])∧Below w.heap.size w w') :
  Calls Tryz.prog 108 #[.agg #[.int .i64 a,.int .i64 b],.agg #[.int .i64 c,.int .i64 d]] w fun e w'=>e = .returned (.agg #[.int .i64 a,.int .i64 b])∧Below w.heap.size w w':=by
 subst h1
 subst h2
 go_enter Tryz.func108,Tryz.ntmps108
 go_wp2_with (fail)
 refine (c1 _).mono ?_
 rintro e1 w1 ⟨rfl,hB1⟩
 obtain ⟨kc1,kf1⟩:=bcell hB1
 have hz1:=hB1.size
 simp only [World.size_alloc] at hz1
 have hs1_0:w.heap.size < w1.heap.size:=by omega
 have hs1_1:w.heap.size+1 < w1.heap.size:=by omega
 have hs1_2:w.heap.size+1+1 < w1.heap.size:=by omega
 have c1_0_0:w1.cell? ⟨w.heap.size,0,none⟩ = some (.int .i64 a):=(kc1 _ _ (by simp <;> omega)).trans (by simp [go_sem])
 have c1_0_1:w1.cell? ⟨w.heap.size,1,none⟩ = some (.int .i64 b):=(kc1 _ _ (by simp <;> omega)).trans (by simp [go_sem])
 have c1_1_0:w1.cell? ⟨w.heap.size+1,0,none⟩ = some (.int .i64 a):=(kc1 _ _ (by simp <;> omega)).trans (by simp [go_sem])
 have c1_1_1:w1.cell? ⟨w.heap.size+1,1,none⟩ = some (.int .i64 b):=(kc1 _ _ (by simp <;> omega)).trans (by simp [go_sem])
 have c1_2_0:w1.cell? ⟨w.heap.size+1+1,0,none⟩ = some (.int .i64 0):=(kc1 _ _ (by simp <;> omega)).trans (by simp [go_sem])
 have c1_2_1:w1.cell? ⟨w.heap.size+1+1,1,none⟩ = some (.int .i64 0):=(kc1 _ _ (by simp <;> omega)).trans (by simp [go_sem])
 have f1_0_0:w1.frozen? ⟨w.heap.size,0,none⟩ = false:=(kf1 _ _ (by simp <;> omega)).trans (by simp [go_sem])
 have f1_0_1:w1.frozen? ⟨w.heap.size,1,none⟩ = false:=(kf1 _ _ (by simp <;> omega)).trans (by simp [go_sem])
 have f1_1_0:w1.frozen? ⟨w.heap.size+1,0,none⟩ = false:=(kf1 _ _ (by simp <;> omega)).trans (by simp [go_sem])
 have f1_1_1:w1.frozen? ⟨w.heap.size+1,1,none⟩ = false:=(kf1 _ _ (by simp <;> omega)).trans (by simp [go_sem])
 have f1_2_0:w1.frozen? ⟨w.heap.size+1+1,0,none⟩ = false:=(kf1 _ _ (by simp <;> omega)).trans (by simp [go_sem])
 have f1_2_1:w1.frozen? ⟨w.heap.size+1+1,1,none⟩ = false:=(kf1 _ _ (by simp <;> omega)).trans (by simp [go_sem])
 have hT1:Below w.heap.size w w1:=below_then ((((Below.refl w.heap.size w).alloc (by go_size) _).alloc (by go_size) _).alloc (by go_size) _) hB1
 clear kc1 kf1 hB1 hz1
 go_wp2_with (fail)
 refine bodyPost_ret (v:=.agg #[.int .i64 a,.int .i64 b]) (by simp [results,Tryz.results108,go_sem,c1_2_0,c1_2_1]) rfl ⟨rfl,?_⟩
 go_grown

set_option maxHeartbeats 1000000 in
theorem iv_hull_12 (a b c d:Int) (w:World) (h1:a = c) (h2:d < b) (c1:∀ w,Calls Tryz.prog 83 #[.int .i64 a,.int .i64 b] w fun e w'=>e = .returned (.agg #[.int .i64 a,.int .i64 b])∧Below w.heap.size w w') :
  Calls Tryz.prog 108 #[.agg #[.int .i64 a,.int .i64 b],.agg #[.int .i64 c,.int .i64 d]] w fun e w'=>e = .returned (.agg #[.int .i64 a,.int .i64 b])∧Below w.heap.size w w':=by
 subst h1
 go_enter Tryz.func108,Tryz.ntmps108
 go_wp2_with (fail)
 refine (c1 _).mono ?_
 rintro e1 w1 ⟨rfl,hB1⟩
 obtain ⟨kc1,kf1⟩:=bcell hB1
 have hz1:=hB1.size
 simp only [World.size_alloc] at hz1
 have hs1_0:w.heap.size < w1.heap.size:=by omega
 have hs1_1:w.heap.size+1 < w1.heap.size:=by omega
 have hs1_2:w.heap.size+1+1 < w1.heap.size:=by omega
 have c1_0_0:w1.cell? ⟨w.heap.size,0,none⟩ = some (.int .i64 a):=(kc1 _ _ (by simp <;> omega)).trans (by simp [go_sem])
 have c1_0_1:w1.cell? ⟨w.heap.size,1,none⟩ = some (.int .i64 b):=(kc1 _ _ (by simp <;> omega)).trans (by simp [go_sem])
 have c1_1_0:w1.cell? ⟨w.heap.size+1,0,none⟩ = some (.int .i64 a):=(kc1 _ _ (by simp <;> omega)).trans (by simp [go_sem])
 have c1_1_1:w1.cell? ⟨w.heap.size+1,1,none⟩ = some (.int .i64 d):=(kc1 _ _ (by simp <;> omega)).trans (by simp [go_sem])
 have c1_2_0:w1.cell? ⟨w.heap.size+1+1,0,none⟩ = some (.int .i64 0):=(kc1 _ _ (by simp <;> omega)).trans (by simp [go_sem])
 have c1_2_1:w1.cell? ⟨w.heap.size+1+1,1,none⟩ = some (.int .i64 0):=(kc1 _ _ (by simp <;> omega)).trans (by simp [go_sem])
 have f1_0_0:w1.frozen? ⟨w.heap.size,0,none⟩ = false:=(kf1 _ _ (by simp <;> omega)).trans (by simp [go_sem])
 have f1_0_1:w1.frozen? ⟨w.heap.size,1,none⟩ = false:=(kf1 _ _ (by simp <;> omega)).trans (by simp [go_sem])
 have f1_1_0:w1.frozen? ⟨w.heap.size+1,0,none⟩ = false:=(kf1 _ _ (by simp <;> omega)).trans (by simp [go_sem])
 have f1_1_1:w1.frozen? ⟨w.heap.size+1,1,none⟩ = false:=(kf1 _ _ (by simp <;> omega)).trans (by simp [go_sem])
 have f1_2_0:w1.frozen? ⟨w.heap.size+1+1,0,none⟩ = false:=(kf1 _ _ (by simp <;> omega)).trans (by simp [go_sem])
 have f1_2_1:w1.frozen? ⟨w.heap.size+1+1,1,none⟩ = false:=(kf1 _ _ (by simp <;> omega)).trans (by simp [go_sem])
 have hT1:Below w.heap.size w w1:=below_then ((((Below.refl w.heap.size w).alloc (by go_size) _).alloc (by go_size) _).alloc (by go_size) _) hB1
 clear kc1 kf1 hB1 hz1
 go_wp2_with (fail)
 refine bodyPost_ret (v:=.agg #[.int .i64 a,.int .i64 b]) (by simp [results,Tryz.results108,go_sem,c1_2_0,c1_2_1]) rfl ⟨rfl,?_⟩
 go_grown

set_option maxHeartbeats 1000000 in
theorem iv_hull_20 (a b c d:Int) (w:World) (h1:c < a) (h2:b < d) (c1:∀ w,Calls Tryz.prog 83 #[.int .i64 c,.int .i64 d] w fun e w'=>e = .returned (.agg #[.int .i64 c,.int .i64 d])∧Below w.heap.size w w') :
  Calls Tryz.prog 108 #[.agg #[.int .i64 a,.int .i64 b],.agg #[.int .i64 c,.int .i64 d]] w fun e w'=>e = .returned (.agg #[.int .i64 c,.int .i64 d])∧Below w.heap.size w w':=by
 go_enter Tryz.func108,Tryz.ntmps108
 go_wp2_with (fail)
 refine (c1 _).mono ?_
 rintro e1 w1 ⟨rfl,hB1⟩
 obtain ⟨kc1,kf1⟩:=bcell hB1
 have hz1:=hB1.size
 simp only [World.size_alloc] at hz1
 have hs1_0:w.heap.size < w1.heap.size:=by omega
 have hs1_1:w.heap.size+1 < w1.heap.size:=by omega
 have hs1_2:w.heap.size+1+1 < w1.heap.size:=by omega
 have c1_0_0:w1.cell? ⟨w.heap.size,0,none⟩ = some (.int .i64 a):=(kc1 _ _ (by simp <;> omega)).trans (by simp [go_sem])
 have c1_0_1:w1.cell? ⟨w.heap.size,1,none⟩ = some (.int .i64 b):=(kc1 _ _ (by simp <;> omega)).trans (by simp [go_sem])
 have c1_1_0:w1.cell? ⟨w.heap.size+1,0,none⟩ = some (.int .i64 c):=(kc1 _ _ (by simp <;> omega)).trans (by simp [go_sem])
 have c1_1_1:w1.cell? ⟨w.heap.size+1,1,none⟩ = some (.int .i64 d):=(kc1 _ _ (by simp <;> omega)).trans (by simp [go_sem])
 have c1_2_0:w1.cell? ⟨w.heap.size+1+1,0,none⟩ = some (.int .i64 0):=(kc1 _ _ (by simp <;> omega)).trans (by simp [go_sem])
 have c1_2_1:w1.cell? ⟨w.heap.size+1+1,1,none⟩ = some (.int .i64 0):=(kc1 _ _ (by simp <;> omega)).trans (by simp [go_sem])
 have f1_0_0:w1.frozen? ⟨w.heap.size,0,none⟩ = false:=(kf1 _ _ (by simp <;> omega)).trans (by simp [go_sem])
 have f1_0_1:w1.frozen? ⟨w.heap.size,1,none⟩ = false:=(kf1 _ _ (by simp <;> omega)).trans (by simp [go_sem])
 have f1_1_0:w1.frozen? ⟨w.heap.size+1,0,none⟩ = false:=(kf1 _ _ (by simp <;> omega)).trans (by simp [go_sem])
 have f1_1_1:w1.frozen? ⟨w.heap.size+1,1,none⟩ = false:=(kf1 _ _ (by simp <;> omega)).trans (by simp [go_sem])
 have f1_2_0:w1.frozen? ⟨w.heap.size+1+1,0,none⟩ = false:=(kf1 _ _ (by simp <;> omega)).trans (by simp [go_sem])
 have f1_2_1:w1.frozen? ⟨w.heap.size+1+1,1,none⟩ = false:=(kf1 _ _ (by simp <;> omega)).trans (by simp [go_sem])
 have hT1:Below w.heap.size w w1:=below_then ((((Below.refl w.heap.size w).alloc (by go_size) _).alloc (by go_size) _).alloc (by go_size) _) hB1
 clear kc1 kf1 hB1 hz1
 go_wp2_with (fail)
 refine bodyPost_ret (v:=.agg #[.int .i64 c,.int .i64 d]) (by simp [results,Tryz.results108,go_sem,c1_2_0,c1_2_1]) rfl ⟨rfl,?_⟩
 go_grown

set_option maxHeartbeats 1000000 in
theorem iv_hull_21 (a b c d:Int) (w:World) (h1:c < a) (h2:b = d) (c1:∀ w,Calls Tryz.prog 83 #[.int .i64 c,.int .i64 b] w fun e w'=>e = .returned (.agg #[.int .i64 c,.int .i64 b])∧Below w.heap.size w w') :
  Calls Tryz.prog 108 #[.agg #[.int .i64 a,.int .i64 b],.agg #[.int .i64 c,.int .i64 d]] w fun e w'=>e = .returned (.agg #[.int .i64 c,.int .i64 b])∧Below w.heap.size w w':=by
 subst h2
 go_enter Tryz.func108,Tryz.ntmps108
 go_wp2_with (fail)
 refine (c1 _).mono ?_
 rintro e1 w1 ⟨rfl,hB1⟩
 obtain ⟨kc1,kf1⟩:=bcell hB1
 have hz1:=hB1.size
 simp only [World.size_alloc] at hz1
 have hs1_0:w.heap.size < w1.heap.size:=by omega
 have hs1_1:w.heap.size+1 < w1.heap.size:=by omega
 have hs1_2:w.heap.size+1+1 < w1.heap.size:=by omega
 have c1_0_0:w1.cell? ⟨w.heap.size,0,none⟩ = some (.int .i64 a):=(kc1 _ _ (by simp <;> omega)).trans (by simp [go_sem])
 have c1_0_1:w1.cell? ⟨w.heap.size,1,none⟩ = some (.int .i64 b):=(kc1 _ _ (by simp <;> omega)).trans (by simp [go_sem])
 have c1_1_0:w1.cell? ⟨w.heap.size+1,0,none⟩ = some (.int .i64 c):=(kc1 _ _ (by simp <;> omega)).trans (by simp [go_sem])
 have c1_1_1:w1.cell? ⟨w.heap.size+1,1,none⟩ = some (.int .i64 b):=(kc1 _ _ (by simp <;> omega)).trans (by simp [go_sem])
 have c1_2_0:w1.cell? ⟨w.heap.size+1+1,0,none⟩ = some (.int .i64 0):=(kc1 _ _ (by simp <;> omega)).trans (by simp [go_sem])
 have c1_2_1:w1.cell? ⟨w.heap.size+1+1,1,none⟩ = some (.int .i64 0):=(kc1 _ _ (by simp <;> omega)).trans (by simp [go_sem])
 have f1_0_0:w1.frozen? ⟨w.heap.size,0,none⟩ = false:=(kf1 _ _ (by simp <;> omega)).trans (by simp [go_sem])
 have f1_0_1:w1.frozen? ⟨w.heap.size,1,none⟩ = false:=(kf1 _ _ (by simp <;> omega)).trans (by simp [go_sem])
 have f1_1_0:w1.frozen? ⟨w.heap.size+1,0,none⟩ = false:=(kf1 _ _ (by simp <;> omega)).trans (by simp [go_sem])
 have f1_1_1:w1.frozen? ⟨w.heap.size+1,1,none⟩ = false:=(kf1 _ _ (by simp <;> omega)).trans (by simp [go_sem])
 have f1_2_0:w1.frozen? ⟨w.heap.size+1+1,0,none⟩ = false:=(kf1 _ _ (by simp <;> omega)).trans (by simp [go_sem])
 have f1_2_1:w1.frozen? ⟨w.heap.size+1+1,1,none⟩ = false:=(kf1 _ _ (by simp <;> omega)).trans (by simp [go_sem])
 have hT1:Below w.heap.size w w1:=below_then ((((Below.refl w.heap.size w).alloc (by go_size) _).alloc (by go_size) _).alloc (by go_size) _) hB1
 clear kc1 kf1 hB1 hz1
 go_wp2_with (fail)
 refine bodyPost_ret (v:=.agg #[.int .i64 c,.int .i64 b]) (by simp [results,Tryz.results108,go_sem,c1_2_0,c1_2_1]) rfl ⟨rfl,?_⟩
 go_grown

set_option maxHeartbeats 1000000 in
theorem iv_hull_22 (a b c d:Int) (w:World) (h1:c < a) (h2:d < b) (c1:∀ w,Calls Tryz.prog 83 #[.int .i64 c,.int .i64 b] w fun e w'=>e = .returned (.agg #[.int .i64 c,.int .i64 b])∧Below w.heap.size w w') :
  Calls Tryz.prog 108 #[.agg #[.int .i64 a,.int .i64 b],.agg #[.int .i64 c,.int .i64 d]] w fun e w'=>e = .returned (.agg #[.int .i64 c,.int .i64 b])∧Below w.heap.size w w':=by
 go_enter Tryz.func108,Tryz.ntmps108
 go_wp2_with (fail)
 refine (c1 _).mono ?_
 rintro e1 w1 ⟨rfl,hB1⟩
 obtain ⟨kc1,kf1⟩:=bcell hB1
 have hz1:=hB1.size
 simp only [World.size_alloc] at hz1
 have hs1_0:w.heap.size < w1.heap.size:=by omega
 have hs1_1:w.heap.size+1 < w1.heap.size:=by omega
 have hs1_2:w.heap.size+1+1 < w1.heap.size:=by omega
 have c1_0_0:w1.cell? ⟨w.heap.size,0,none⟩ = some (.int .i64 a):=(kc1 _ _ (by simp <;> omega)).trans (by simp [go_sem])
 have c1_0_1:w1.cell? ⟨w.heap.size,1,none⟩ = some (.int .i64 b):=(kc1 _ _ (by simp <;> omega)).trans (by simp [go_sem])
 have c1_1_0:w1.cell? ⟨w.heap.size+1,0,none⟩ = some (.int .i64 c):=(kc1 _ _ (by simp <;> omega)).trans (by simp [go_sem])
 have c1_1_1:w1.cell? ⟨w.heap.size+1,1,none⟩ = some (.int .i64 d):=(kc1 _ _ (by simp <;> omega)).trans (by simp [go_sem])
 have c1_2_0:w1.cell? ⟨w.heap.size+1+1,0,none⟩ = some (.int .i64 0):=(kc1 _ _ (by simp <;> omega)).trans (by simp [go_sem])
 have c1_2_1:w1.cell? ⟨w.heap.size+1+1,1,none⟩ = some (.int .i64 0):=(kc1 _ _ (by simp <;> omega)).trans (by simp [go_sem])
 have f1_0_0:w1.frozen? ⟨w.heap.size,0,none⟩ = false:=(kf1 _ _ (by simp <;> omega)).trans (by simp [go_sem])
 have f1_0_1:w1.frozen? ⟨w.heap.size,1,none⟩ = false:=(kf1 _ _ (by simp <;> omega)).trans (by simp [go_sem])
 have f1_1_0:w1.frozen? ⟨w.heap.size+1,0,none⟩ = false:=(kf1 _ _ (by simp <;> omega)).trans (by simp [go_sem])
 have f1_1_1:w1.frozen? ⟨w.heap.size+1,1,none⟩ = false:=(kf1 _ _ (by simp <;> omega)).trans (by simp [go_sem])
 have f1_2_0:w1.frozen? ⟨w.heap.size+1+1,0,none⟩ = false:=(kf1 _ _ (by simp <;> omega)).trans (by simp [go_sem])
 have f1_2_1:w1.frozen? ⟨w.heap.size+1+1,1,none⟩ = false:=(kf1 _ _ (by simp <;> omega)).trans (by simp [go_sem])
 have hT1:Below w.heap.size w w1:=below_then ((((Below.refl w.heap.size w).alloc (by go_size) _).alloc (by go_size) _).alloc (by go_size) _) hB1
 clear kc1 kf1 hB1 hz1
 go_wp2_with (fail)
 refine bodyPost_ret (v:=.agg #[.int .i64 c,.int .i64 b]) (by simp [results,Tryz.results108,go_sem,c1_2_0,c1_2_1]) rfl ⟨rfl,?_⟩
 go_grown

set_option maxHeartbeats 1000000 in
theorem iv_hull (a b c d:Int) (w:World) (hv:VI a b) (hw:VI c d) :
  Calls Tryz.prog 108 #[.agg #[.int .i64 a,.int .i64 b],.agg #[.int .i64 c,.int .i64 d]] w fun e w'=>e = .returned (.agg #[.int .i64 (min a c),.int .i64 (max b d)])∧Below w.heap.size w w':=by
 obtain ⟨ha1,ha2,hb1,hb2,hab⟩:=hv.bd
 obtain ⟨hc1,hc2,hd1,hd2,hcd⟩:=hw.bd
 obtain ⟨k1,k2⟩:=mk_hull hv hw
 have c1:∀ w,Calls Tryz.prog 83 #[.int .i64 (min a c),.int .i64 (max b d)] w fun e w'=>e = .returned (.agg #[.int .i64 (min a c),.int .i64 (max b d)])∧Below w.heap.size w w':=fun w=>by
  have:=iv_new (min a c) (max b d) w (by omega)
  rw [k1,k2] at this
  exact this
 clear hv hw k1 k2
 rcases Int.lt_trichotomy a c with h1 | h1 | h1
 ·rw [show min a c = a by omega] at *
  rcases Int.lt_trichotomy b d with h2 | h2 | h2
  ·rw [show max b d = d by omega] at *
   exact iv_hull_00 a b c d w h1 h2 c1
  ·rw [show max b d = b by omega] at *
   exact iv_hull_01 a b c d w h1 h2 c1
  ·rw [show max b d = b by omega] at *
   exact iv_hull_02 a b c d w h1 h2 c1
 ·rw [show min a c = a by omega] at *
  rcases Int.lt_trichotomy b d with h2 | h2 | h2
  ·rw [show max b d = d by omega] at *
   exact iv_hull_10 a b c d w h1 h2 c1
  ·rw [show max b d = b by omega] at *
   exact iv_hull_11 a b c d w h1 h2 c1
  ·rw [show max b d = b by omega] at *
   exact iv_hull_12 a b c d w h1 h2 c1
 ·rw [show min a c = c by omega] at *
  rcases Int.lt_trichotomy b d with h2 | h2 | h2
  ·rw [show max b d = d by omega] at *
   exact iv_hull_20 a b c d w h1 h2 c1
  ·rw [show max b d = b by omega] at *
   exact iv_hull_21 a b c d w h1 h2 c1
  ·rw [show max b d = b by omega] at *
   exact iv_hull_22 a b c d w h1 h2 c1
end Go.Proofs.YtdfdpghdjlgghaaGreat
