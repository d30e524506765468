/-
 Iw10 IvMath
-/
import Derived.Test.YtdfdpghdjlgghaaGreatKda
import Derived.Test.YtdfdpghdjlgghaaGreatKdj
namespace Go.Proofs.YtdfdpghdjlgghaaGreat
open Go.ChangeShapes Go.WideShapes Go.ChangeAt Go.RowKit
set_option linter.unusedVariables false
set_option linter.unusedSimpArgs false
set_option maxRecDepth 100000
open Go.BigFrame
attribute [local go_sem ↓] run_max_two run_min_two run_max_three
def sq1 (a b:Int):Int:=if a ≤ 0∧0 ≤ b then 0 else min (a * a) (b * b)
def sq2 (a b:Int):Int:=max (a * a) (b * b)
def near (a b:Int):Int:=max a (max (-b) 0)
theorem sq12 (a b:Int):sq1 a b ≤ sq2 a b:=by
 have h1:0 ≤ a * a:=by
  by_cases h:0 ≤ a
  ·exact Int.mul_nonneg h h
  ·have:=Int.mul_nonneg (show 0 ≤ -a by omega) (show 0 ≤ -a by omega)
   rwa [Int.neg_mul_neg] at this
 unfold sq1 sq2
 split <;> omega
def sqLo (a b:Int):Int:=if Ent a b then -2147483648 else mkLo (dn (sq1 a b) 65536) (up (sq2 a b) 65536)
def sqHi (a b:Int):Int:=if Ent a b then 2147483648 else mkHi (dn (sq1 a b) 65536) (up (sq2 a b) 65536)

def mr1 (a b n d:Int):Int:=dn (min (a * n) (b * n)) d
def mr2 (a b n d:Int):Int:=up (max (a * n) (b * n)) d
def mrLo (a b n d:Int):Int:=if Ent a b then -2147483648 else mkLo (mr1 a b n d) (mr2 a b n d)
def mrHi (a b n d:Int):Int:=if Ent a b then 2147483648 else mkHi (mr1 a b n d) (mr2 a b n d)
theorem mr_le {a b n d:Int} (hd:0 < d):mr1 a b n d ≤ mr2 a b n d:=Int.le_trans (dn_mono hd (show min (a * n) (b * n) ≤ max (a * n) (b * n) by omega)) (up_dn _ hd).1
theorem mr_end {a b n:Int} (h:a ≤ b):(if decide (n < 0) = true then b else a) * n = min (a * n) (b * n)∧(if decide (n < 0) = true then a else b) * n = max (a * n) (b * n):=by
 have h1:0 ≤ n→a * n ≤ b * n:=fun hn=>Int.mul_le_mul_of_nonneg_right h hn
 have h2:n ≤ 0→b * n ≤ a * n:=fun hn=>Int.mul_le_mul_of_nonpos_right h hn
 by_cases hn:n < 0
 ·have:=h2 (by omega)
  simp only [hn,decide_true,if_true]
  omega
 ·have:=h1 (by omega)
  simp only [hn,decide_false,Bool.false_eq_true,if_false]
  omega

set_option maxHeartbeats 4000000 in
theorem iv_mulratio (a b n d:Int) (w:World) (hv:VI a b) (n1:-1073741824 ≤ n) (n2:n ≤ 1073741824) (d1:1 ≤ d) (d2:d ≤ 1073741824) :
  Calls Tryz.prog 174 #[.agg #[.int .i64 a,.int .i64 b],.int .i64 n,.int .i64 d] w fun e w'=>e = .returned (.agg #[.int .i64 (mrLo a b n d),.int .i64 (mrHi a b n d)])∧Below w.heap.size w w':=by
 unfold mrLo mrHi
 by_cases h1:Ent a b
 ·rw [if_pos h1,if_pos h1]
  obtain ⟨rfl,rfl⟩:=h1
  clear hv
  go_enter Tryz.func174,Tryz.ntmps174
  go_wp2_with (fail)
  generalize hW0:World.alloc (World.alloc w _) _ = W0
  have hT0:Below w.heap.size w W0:=by subst hW0; exact (((Below.refl w.heap.size w).alloc (by go_size) _).alloc (by go_size) _)
  have S0:∀ g:Grown W0,w.heap.size < g.w.heap.size:=fun g=>Nat.lt_of_lt_of_le (by subst hW0; simp <;> omega) g.h.size
  have Y0:w.heap.size < W0.heap.size:=by subst hW0; simp <;> omega
  have F00:∀ g:Grown W0,g.w.cell? ⟨w.heap.size,0,none⟩ = some (.int .i64 (-2147483648)):=fun g=>(g.cell Y0).trans (by subst hW0; simp [go_sem])
  have H00:∀ g:Grown W0,g.w.frozen? ⟨w.heap.size,0,none⟩ = false:=fun g=>(g.frozen Y0).trans (by subst hW0; simp [go_sem])
  have F01:∀ g:Grown W0,g.w.cell? ⟨w.heap.size,1,none⟩ = some (.int .i64 2147483648):=fun g=>(g.cell Y0).trans (by subst hW0; simp [go_sem])
  have H01:∀ g:Grown W0,g.w.frozen? ⟨w.heap.size,1,none⟩ = false:=fun g=>(g.frozen Y0).trans (by subst hW0; simp [go_sem])
  clear Y0
  have S1:∀ g:Grown W0,w.heap.size+1 < g.w.heap.size:=fun g=>Nat.lt_of_lt_of_le (by subst hW0; simp <;> omega) g.h.size
  have Y1:w.heap.size+1 < W0.heap.size:=by subst hW0; simp <;> omega
  have F10:∀ g:Grown W0,g.w.cell? ⟨w.heap.size+1,0,none⟩ = some (.int .i64 0):=fun g=>(g.cell Y1).trans (by subst hW0; simp [go_sem])
  have H10:∀ g:Grown W0,g.w.frozen? ⟨w.heap.size+1,0,none⟩ = false:=fun g=>(g.frozen Y1).trans (by subst hW0; simp [go_sem])
  have F11:∀ g:Grown W0,g.w.cell? ⟨w.heap.size+1,1,none⟩ = some (.int .i64 0):=fun g=>(g.cell Y1).trans (by subst hW0; simp [go_sem])
  have H11:∀ g:Grown W0,g.w.frozen? ⟨w.heap.size+1,1,none⟩ = false:=fun g=>(g.frozen Y1).trans (by subst hW0; simp [go_sem])
  clear Y1
  clear hW0
  obtain ⟨g0,hg0⟩:∃ g:Grown W0,W0 = g.w:=⟨⟨W0,Below.refl _ _⟩,rfl⟩
  rw [hg0]
  clear hg0
  refine (iv_ent_yes _).mono ?_
  rintro e1 w1 ⟨rfl,hB1⟩
  obtain ⟨g1,rfl⟩:=grow g0 hB1
  clear hB1
  go_wp2_with (fail)
  refine (iv_entire _).mono ?_
  rintro e2 w2 ⟨rfl,hB2⟩
  obtain ⟨g2,rfl⟩:=grow g1 hB2
  clear hB2
  go_wp2_with (fail)
  have hB:Below w.heap.size w g2.w:=below_then hT0 g2.h
  refine bodyPost_ret (v:=.agg #[.int .i64 (-2147483648),.int .i64 2147483648]) (by simp [results,Tryz.results174,go_sem,F10,F11]) rfl ⟨rfl,?_⟩
  go_grown
 ·rw [if_neg h1,if_neg h1]
  have h1':=Lib.hid h1
  obtain ⟨ha1,ha2,hb1,hb2,hab⟩:=hv.bd
  obtain ⟨k1,k2⟩:=mr_end (n:=n) hab
  have c1:=fun w=>ch_int (decide (n < 0)) b a w
  have c2:=fun w=>ch_int (decide (n < 0)) a b w
  have c3:=fun w=>ratio_any (if decide (n < 0) = true then b else a) n d w (by split <;> omega) (by split <;> omega) n1 n2 d1 d2
  have c4:=fun w=>ratio_any (if decide (n < 0) = true then a else b) n d w (by split <;> omega) (by split <;> omega) n1 n2 d1 d2
  rw [k1] at c3
  rw [k2] at c4
  have c5:=fun w=>iv_new (mr1 a b n d) (mr2 a b n d) w (mr_le (by omega))
  unfold mr1 mr2 at *
  clear k1 k2 h1 hv
  generalize mkLo _ _ = x at *
  generalize mkHi _ _ = y at *
  generalize dn (min (a * n) (b * n)) d = m1 at *
  generalize up (min (a * n) (b * n)) d = m2 at *
  generalize dn (max (a * n) (b * n)) d = m3 at *
  generalize up (max (a * n) (b * n)) d = m4 at *
  generalize (if decide (n < 0) = true then b else a) = m5 at *
  generalize (if decide (n < 0) = true then a else b) = m6 at *
  go_enter Tryz.func174,Tryz.ntmps174
  go_wp2_with (fail)
  generalize hW0:World.alloc (World.alloc w _) _ = W0
  have hT0:Below w.heap.size w W0:=by subst hW0; exact (((Below.refl w.heap.size w).alloc (by go_size) _).alloc (by go_size) _)
  have S0:∀ g:Grown W0,w.heap.size < g.w.heap.size:=fun g=>Nat.lt_of_lt_of_le (by subst hW0; simp <;> omega) g.h.size
  have Y0:w.heap.size < W0.heap.size:=by subst hW0; simp <;> omega
  have F00:∀ g:Grown W0,g.w.cell? ⟨w.heap.size,0,none⟩ = some (.int .i64 a):=fun g=>(g.cell Y0).trans (by subst hW0; simp [go_sem])
  have H00:∀ g:Grown W0,g.w.frozen? ⟨w.heap.size,0,none⟩ = false:=fun g=>(g.frozen Y0).trans (by subst hW0; simp [go_sem])
  have F01:∀ g:Grown W0,g.w.cell? ⟨w.heap.size,1,none⟩ = some (.int .i64 b):=fun g=>(g.cell Y0).trans (by subst hW0; simp [go_sem])
  have H01:∀ g:Grown W0,g.w.frozen? ⟨w.heap.size,1,none⟩ = false:=fun g=>(g.frozen Y0).trans (by subst hW0; simp [go_sem])
  clear Y0
  have S1:∀ g:Grown W0,w.heap.size+1 < g.w.heap.size:=fun g=>Nat.lt_of_lt_of_le (by subst hW0; simp <;> omega) g.h.size
  have Y1:w.heap.size+1 < W0.heap.size:=by subst hW0; simp <;> omega
  have F10:∀ g:Grown W0,g.w.cell? ⟨w.heap.size+1,0,none⟩ = some (.int .i64 0):=fun g=>(g.cell Y1).trans (by subst hW0; simp [go_sem])
  have H10:∀ g:Grown W0,g.w.frozen? ⟨w.heap.size+1,0,none⟩ = false:=fun g=>(g.frozen Y1).trans (by subst hW0; simp [go_sem])
  have F11:∀ g:Grown W0,g.w.cell? ⟨w.heap.size+1,1,none⟩ = some (.int .i64 0):=fun g=>(g.cell Y1).trans (by subst hW0; simp [go_sem])
  have H11:∀ g:Grown W0,g.w.frozen? ⟨w.heap.size+1,1,none⟩ = false:=fun g=>(g.frozen Y1).trans (by subst hW0; simp [go_sem])
  clear Y1
  clear hW0
  obtain ⟨g0,hg0⟩:∃ g:Grown W0,W0 = g.w:=⟨⟨W0,Below.refl _ _⟩,rfl⟩
  rw [hg0]
  clear hg0
  refine (iv_ent_no a b _ h1'.out).mono ?_
  rintro e1 w1 ⟨rfl,hB1⟩
  obtain ⟨g1,rfl⟩:=grow g0 hB1
  clear hB1
  go_wp2_with (fail)
  refine (c1 _).mono ?_
  rintro e2 w2 ⟨rfl,rfl⟩
  go_wp2_with (fail)
  refine (c3 _).mono ?_
  rintro e3 w3 ⟨rfl,hB3⟩
  obtain ⟨g3,rfl⟩:=grow g1 hB3
  clear hB3
  go_wp2_with (fail)
  refine (c2 _).mono ?_
  rintro e4 w4 ⟨rfl,rfl⟩
  go_wp2_with (fail)
  refine (c4 _).mono ?_
  rintro e5 w5 ⟨rfl,hB5⟩
  obtain ⟨g5,rfl⟩:=grow g3 hB5
  clear hB5
  go_wp2_with (fail)
  refine (c5 _).mono ?_
  rintro e6 w6 ⟨rfl,hB6⟩
  obtain ⟨g6,rfl⟩:=grow g5 hB6
  clear hB6
  go_wp2_with (fail)
  have hB:Below w.heap.size w g6.w:=below_then hT0 g6.h
  refine bodyPost_ret (v:=.agg #[.int .i64 x,.int .i64 y]) (by simp [results,Tryz.results174,go_sem,F10,F11]) rfl ⟨rfl,?_⟩
  go_grown

def rt1 (a:Int):Int:=isq (max a 0 * 65536)
def rt2 (b:Int):Int:=usq (b * 65536)
theorem rt_le {a b:Int} (h:a ≤ b) (hb:0 ≤ b):rt1 a ≤ rt2 b:=by
 have h1:=isq_mono (n:=max a 0 * 65536) (m:=b * 65536) (by omega) (by omega)
 unfold rt1 rt2 usq
 split <;> omega

theorem mk_meet {a b c d:Int} (h:VI a b) (k:VI c d) (hm:max a c ≤ min b d):mkLo (max a c) (min b d) = max a c∧mkHi (max a c) (min b d) = min b d:=by
 unfold mkLo mkHi Num
 rcases h with ⟨rfl,rfl⟩ | ⟨⟨h1,h2⟩,⟨h3,h4⟩,h5⟩
 all_goals rcases k with ⟨rfl,rfl⟩ | ⟨⟨k1,k2⟩,⟨k3,k4⟩,k5⟩
 all_goals (split <;> omega)

set_option maxHeartbeats 1000000 in
theorem iv_meet_no (a b c d:Int) (w:World) (h:min b d < max a c) :
  Calls Tryz.prog 148 #[.agg #[.int .i64 a,.int .i64 b],.agg #[.int .i64 c,.int .i64 d]] w fun e w'=>e = .returned (.tuple #[.agg #[.int .i64 0,.int .i64 0],.bool false])∧Below w.heap.size w w':=by
 obtain ⟨x,hx⟩:∃ x,max a c = x:=⟨_,rfl⟩
 obtain ⟨y,hy⟩:∃ y,min b d = y:=⟨_,rfl⟩
 rw [hx,hy] at h
 have hx':=Lib.hid hx
 have hy':=Lib.hid hy
 clear hx hy
 go_enter Tryz.func148,Tryz.ntmps148
 go_wp2_with (fail)
 generalize hW0:World.alloc (World.alloc (World.alloc w _) _) _ = W0
 have hT0:Below w.heap.size w W0:=by subst hW0; exact ((((Below.refl w.heap.size w).alloc (by go_size) _).alloc (by go_size) _).alloc (by go_size) _)
 have S0:∀ g:Grown W0,w.heap.size < g.w.heap.size:=fun g=>Nat.lt_of_lt_of_le (by subst hW0; simp <;> omega) g.h.size
 have Y0:w.heap.size < W0.heap.size:=by subst hW0; simp <;> omega
 have F00:∀ g:Grown W0,g.w.cell? ⟨w.heap.size,0,none⟩ = some (.int .i64 a):=fun g=>(g.cell Y0).trans (by subst hW0; simp [go_sem])
 have H00:∀ g:Grown W0,g.w.frozen? ⟨w.heap.size,0,none⟩ = false:=fun g=>(g.frozen Y0).trans (by subst hW0; simp [go_sem])
 have F01:∀ g:Grown W0,g.w.cell? ⟨w.heap.size,1,none⟩ = some (.int .i64 b):=fun g=>(g.cell Y0).trans (by subst hW0; simp [go_sem])
 have H01:∀ g:Grown W0,g.w.frozen? ⟨w.heap.size,1,none⟩ = false:=fun g=>(g.frozen Y0).trans (by subst hW0; simp [go_sem])
 clear Y0
 have S1:∀ g:Grown W0,w.heap.size+1 < g.w.heap.size:=fun g=>Nat.lt_of_lt_of_le (by subst hW0; simp <;> omega) g.h.size
 have Y1:w.heap.size+1 < W0.heap.size:=by subst hW0; simp <;> omega
 have F10:∀ g:Grown W0,g.w.cell? ⟨w.heap.size+1,0,none⟩ = some (.int .i64 c):=fun g=>(g.cell Y1).trans (by subst hW0; simp [go_sem])
 have H10:∀ g:Grown W0,g.w.frozen? ⟨w.heap.size+1,0,none⟩ = false:=fun g=>(g.frozen Y1).trans (by subst hW0; simp [go_sem])
 have F11:∀ g:Grown W0,g.w.cell? ⟨w.heap.size+1,1,none⟩ = some (.int .i64 d):=fun g=>(g.cell Y1).trans (by subst hW0; simp [go_sem])
 have H11:∀ g:Grown W0,g.w.frozen? ⟨w.heap.size+1,1,none⟩ = false:=fun g=>(g.frozen Y1).trans (by subst hW0; simp [go_sem])
 clear Y1
 have S2:∀ g:Grown W0,w.heap.size+1+1 < g.w.heap.size:=fun g=>Nat.lt_of_lt_of_le (by subst hW0; simp <;> omega) g.h.size
 have Y2:w.heap.size+1+1 < W0.heap.size:=by subst hW0; simp <;> omega
 have F20:∀ g:Grown W0,g.w.cell? ⟨w.heap.size+1+1,0,none⟩ = some (.int .i64 0):=fun g=>(g.cell Y2).trans (by subst hW0; simp [go_sem])
 have H20:∀ g:Grown W0,g.w.frozen? ⟨w.heap.size+1+1,0,none⟩ = false:=fun g=>(g.frozen Y2).trans (by subst hW0; simp [go_sem])
 have F21:∀ g:Grown W0,g.w.cell? ⟨w.heap.size+1+1,1,none⟩ = some (.int .i64 0):=fun g=>(g.cell Y2).trans (by subst hW0; simp [go_sem])
 have H21:∀ g:Grown W0,g.w.frozen? ⟨w.heap.size+1+1,1,none⟩ = false:=fun g=>(g.frozen Y2).trans (by subst hW0; simp [go_sem])
 clear Y2
 clear hW0
 obtain ⟨g0,hg0⟩:∃ g:Grown W0,W0 = g.w:=⟨⟨W0,Below.refl _ _⟩,rfl⟩
 rw [hg0]
 clear hg0
 refine region_quiet' g0 (by kernel_rfl) (by kernel_rfl) ?_
 repeat (go_big_quiet_step (fail))
 refine wpQuiet_nil ?_
 rintro _ ⟨g1,rfl⟩
 rw [hx'.out,hy'.out]
 go_wp2_with (fail)
 have hB:Below w.heap.size w g1.w:=below_then hT0 g1.h
 refine bodyPost_ret (v:=.tuple #[.agg #[.int .i64 0,.int .i64 0],.bool false]) (by simp [results,Tryz.results148,go_sem,F20,F21]) rfl ⟨rfl,?_⟩
 go_grown

set_option maxHeartbeats 1000000 in
theorem iv_meet_yes (a b c d:Int) (w:World) (hv:VI a b) (hw:VI c d) (h:max a c ≤ min b d) :
  Calls Tryz.prog 148 #[.agg #[.int .i64 a,.int .i64 b],.agg #[.int .i64 c,.int .i64 d]] w fun e w'=>e = .returned (.tuple #[.agg #[.int .i64 (max a c),.int .i64 (min b d)],.bool true])∧Below w.heap.size w w':=by
 have c1:=fun w=>iv_new (max a c) (min b d) w h
 rw [(mk_meet hv hw h).1,(mk_meet hv hw h).2] at c1
 clear hv hw
 obtain ⟨x,hx⟩:∃ x,max a c = x:=⟨_,rfl⟩
 obtain ⟨y,hy⟩:∃ y,min b d = y:=⟨_,rfl⟩
 rw [hx,hy] at h c1 ⊢
 have hx':=Lib.hid hx
 have hy':=Lib.hid hy
 clear hx hy
 go_enter Tryz.func148,Tryz.ntmps148
 go_wp2_with (fail)
 generalize hW0:World.alloc (World.alloc (World.alloc w _) _) _ = W0
 have hT0:Below w.heap.size w W0:=by subst hW0; exact ((((Below.refl w.heap.size w).alloc (by go_size) _).alloc (by go_size) _).alloc (by go_size) _)
 have S0:∀ g:Grown W0,w.heap.size < g.w.heap.size:=fun g=>Nat.lt_of_lt_of_le (by subst hW0; simp <;> omega) g.h.size
 have Y0:w.heap.size < W0.heap.size:=by subst hW0; simp <;> omega
 have F00:∀ g:Grown W0,g.w.cell? ⟨w.heap.size,0,none⟩ = some (.int .i64 a):=fun g=>(g.cell Y0).trans (by subst hW0; simp [go_sem])
 have H00:∀ g:Grown W0,g.w.frozen? ⟨w.heap.size,0,none⟩ = false:=fun g=>(g.frozen Y0).trans (by subst hW0; simp [go_sem])
 have F01:∀ g:Grown W0,g.w.cell? ⟨w.heap.size,1,none⟩ = some (.int .i64 b):=fun g=>(g.cell Y0).trans (by subst hW0; simp [go_sem])
 have H01:∀ g:Grown W0,g.w.frozen? ⟨w.heap.size,1,none⟩ = false:=fun g=>(g.frozen Y0).trans (by subst hW0; simp [go_sem])
 clear Y0
 have S1:∀ g:Grown W0,w.heap.size+1 < g.w.heap.size:=fun g=>Nat.lt_of_lt_of_le (by subst hW0; simp <;> omega) g.h.size
 have Y1:w.heap.size+1 < W0.heap.size:=by subst hW0; simp <;> omega
 have F10:∀ g:Grown W0,g.w.cell? ⟨w.heap.size+1,0,none⟩ = some (.int .i64 c):=fun g=>(g.cell Y1).trans (by subst hW0; simp [go_sem])
 have H10:∀ g:Grown W0,g.w.frozen? ⟨w.heap.size+1,0,none⟩ = false:=fun g=>(g.frozen Y1).trans (by subst hW0; simp [go_sem])
 have F11:∀ g:Grown W0,g.w.cell? ⟨w.heap.size+1,1,none⟩ = some (.int .i64 d):=fun g=>(g.cell Y1).trans (by subst hW0; simp [go_sem])
 have H11:∀ g:Grown W0,g.w.frozen? ⟨w.heap.size+1,1,none⟩ = false:=fun g=>(g.frozen Y1).trans (by subst hW0; simp [go_sem])
 clear Y1
 have S2:∀ g:Grown W0,w.heap.size+1+1 < g.w.heap.size:=fun g=>Nat.lt_of_lt_of_le (by subst hW0; simp <;> omega) g.h.size
 have Y2:w.heap.size+1+1 < W0.heap.size:=by subst hW0; simp <;> omega
 have F20:∀ g:Grown W0,g.w.cell? ⟨w.heap.size+1+1,0,none⟩ = some (.int .i64 0):=fun g=>(g.cell Y2).trans (by subst hW0; simp [go_sem])
 have H20:∀ g:Grown W0,g.w.frozen? ⟨w.heap.size+1+1,0,none⟩ = false:=fun g=>(g.frozen Y2).trans (by subst hW0; simp [go_sem])
 have F21:∀ g:Grown W0,g.w.cell? ⟨w.heap.size+1+1,1,none⟩ = some (.int .i64 0):=fun g=>(g.cell Y2).trans (by subst hW0; simp [go_sem])
 have H21:∀ g:Grown W0,g.w.frozen? ⟨w.heap.size+1+1,1,none⟩ = false:=fun g=>(g.frozen Y2).trans (by subst hW0; simp [go_sem])
 clear Y2
 clear hW0
 obtain ⟨g0,hg0⟩:∃ g:Grown W0,W0 = g.w:=⟨⟨W0,Below.refl _ _⟩,rfl⟩
 rw [hg0]
 clear hg0
 refine region_quiet' g0 (by kernel_rfl) (by kernel_rfl) ?_
 repeat (go_big_quiet_step (fail))
 refine wpQuiet_nil ?_
 rintro _ ⟨g1,rfl⟩
 rw [hx'.out,hy'.out]
 go_wp2_with (fail)
 refine (c1 _).mono ?_
 rintro e2 w2 ⟨rfl,hB2⟩
 obtain ⟨g2,rfl⟩:=grow g1 hB2
 clear hB2
 go_wp2_with (fail)
 have hB:Below w.heap.size w g2.w:=below_then hT0 g2.h
 refine bodyPost_ret (v:=.tuple #[.agg #[.int .i64 x,.int .i64 y],.bool true]) (by simp [results,Tryz.results148,go_sem,F20,F21]) rfl ⟨rfl,?_⟩
 go_grown
end Go.Proofs.YtdfdpghdjlgghaaGreat
namespace Go.Proofs.YtdfdpghdjlgghaaGreat
set_option linter.unusedVariables false
set_option linter.unusedSimpArgs false
set_option maxRecDepth 100000
theorem mk_sub {x y x' y':Int} (h1:x' ≤ x) (h2:x ≤ y) (h3:y ≤ y'):mkLo x' y' ≤ mkLo x y∧mkHi x y ≤ mkHi x' y':=by
 unfold mkLo mkHi Num
 by_cases h:((-2147483648 < x'∧x' < 2147483648)∧(-2147483648 < y'∧y' < 2147483648))
 ·rw [if_pos h,if_pos (by omega),if_pos (by omega),if_pos h]; omega
 ·rw [if_neg h,if_neg h]
  split <;> omega
theorem mk_vi {x y:Int} (h:x ≤ y):VI (mkLo x y) (mkHi x y):=by
 unfold mkLo mkHi VI Ent
 by_cases hc:Num x∧Num y
 ·rw [if_pos hc,if_pos hc]; exact .inr ⟨hc.1,hc.2,h⟩
 ·rw [if_neg hc,if_neg hc]; exact .inl ⟨rfl,rfl⟩
theorem VI.wide {a b:Int} (h:VI a b):-2147483648 ≤ a∧b ≤ 2147483648:=by have:=h.bd; omega

theorem mk_self {a b:Int} (h:VI a b) (he:¬ Ent a b):mkLo a b = a∧mkHi a b = b:=by
 have:=h.resolve_left he
 unfold mkLo mkHi
 rw [if_pos ⟨this.1,this.2.1⟩,if_pos ⟨this.1,this.2.1⟩]; exact ⟨rfl,rfl⟩
theorem add_zero2 {a b:Int} (h:VI a b):addLo a b 0 0 = a∧addHi a b 0 0 = b:=by
 unfold addLo addHi
 by_cases he:Ent a b
 ·rw [if_pos (.inl he),if_pos (.inl he)]; exact ⟨he.1.symm,he.2.symm⟩
 ·have hn:¬ (Ent a b ∨ Ent 0 0):=fun k=>k.elim he (by unfold Ent; omega)
  rw [if_neg hn,if_neg hn,Int.add_zero,Int.add_zero]
  exact mk_self h he
theorem sq_nonneg (x:Int):0 ≤ x * x:=by
 by_cases h:0 ≤ x
 ·exact Int.mul_nonneg h h
 ·have:=Int.mul_nonneg (show 0 ≤ -x by omega) (show 0 ≤ -x by omega)
  rwa [Int.neg_mul_neg] at this
theorem mul_vi (a b c d:Int):VI (mulLo a b c d) (mulHi a b c d):=by
 unfold mulLo mulHi
 by_cases h:Ent a b ∨ Ent c d
 ·rw [if_pos h,if_pos h]; exact .inl ⟨rfl,rfl⟩
 ·rw [if_neg h,if_neg h]; exact mk_vi (dn_up_le (mn_mx a b c d))
theorem div_vi {a b c d:Int} (hcd:c ≤ d):VI (divLo a b c d) (divHi a b c d):=by
 unfold divLo divHi
 by_cases h:Ent a b ∨ (c ≤ 0∧0 ≤ d)
 ·rw [if_pos h,if_pos h]; exact .inl ⟨rfl,rfl⟩
 ·rw [if_neg h,if_neg h]; exact mk_vi (dv_le (by intro hc; exact h (.inr (by omega))))
theorem add_vi {a b c d:Int} (h1:a ≤ b) (h2:c ≤ d):VI (addLo a b c d) (addHi a b c d):=by
 unfold addLo addHi
 by_cases h:Ent a b ∨ Ent c d
 ·rw [if_pos h,if_pos h]; exact .inl ⟨rfl,rfl⟩
 ·rw [if_neg h,if_neg h]; exact mk_vi (by omega)
theorem mr_vi {a b n d:Int} (hd:0 < d):VI (mrLo a b n d) (mrHi a b n d):=by
 unfold mrLo mrHi
 by_cases h:Ent a b
 ·rw [if_pos h,if_pos h]; exact .inl ⟨rfl,rfl⟩
 ·rw [if_neg h,if_neg h]; exact mk_vi (mr_le hd)
theorem sq_vi (a b:Int):VI (sqLo a b) (sqHi a b):=by
 unfold sqLo sqHi
 by_cases h:Ent a b
 ·rw [if_pos h,if_pos h]; exact .inl ⟨rfl,rfl⟩
 ·rw [if_neg h,if_neg h]; exact mk_vi (Int.le_trans (dn_mono (by decide) (sq12 a b)) (up_dn _ (by decide)).1)
end Go.Proofs.YtdfdpghdjlgghaaGreat
