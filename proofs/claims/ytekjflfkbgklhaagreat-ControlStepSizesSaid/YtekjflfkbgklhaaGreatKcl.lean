/-
 Iw10
-/
import Derived.Test.YtekjflfkbgklhaaGreatKca
import Derived.Test.YtekjflfkbgklhaaGreatKcj
namespace Go.Proofs.YtekjflfkbgklhaaGreat
open Go.ChangeShapes Go.WideShapes Go.ChangeAt Go.RowKit
set_option linter.unusedVariables false
set_option linter.unusedSimpArgs false
set_option maxRecDepth 100000
open Go.BigFrame
attribute [local go_sem ↓] run_max_two run_min_two run_max_three
def sq1 (a b:Int):Int:=if a ≤ 0∧0 ≤ b then 0 else min (a * a) (b * b)
def sq2 (a b:Int):Int:=max (a * a) (b * b)
def near (a b:Int):Int:=max a (max (-b) 0)
theorem sq_near {a b:Int} (h:a ≤ b):near a b * near a b = sq1 a b∧max b (-a) * max b (-a) = sq2 a b:=by
 have hb:0 ≤ b→0 ≤ a→a * a ≤ b * b:=fun h1 h2=>sq_le h2 h
 have ha:b ≤ 0→b * b ≤ a * a:=fun h1=>by
  have:=sq_le (a:=-b) (b:=-a) (by omega) (by omega)
  rwa [Int.neg_mul_neg,Int.neg_mul_neg] at this
 have hm:0 ≤ b→-a ≤ b→a ≤ 0→a * a ≤ b * b:=fun h1 h2 h3=>by
  have:=sq_le (a:=-a) (b:=b) (by omega) h2
  rwa [Int.neg_mul_neg] at this
 have hn:0 ≤ b→b ≤ -a→b * b ≤ a * a:=fun h1 h2=>by
  have:=sq_le (a:=b) (b:=-a) h1 h2
  rwa [Int.neg_mul_neg] at this
 have na:(-a) * (-a) = a * a:=Int.neg_mul_neg a a
 have nb:(-b) * (-b) = b * b:=Int.neg_mul_neg b b
 unfold near sq1 sq2
 refine ⟨?_,?_⟩
 ·by_cases h1:0 < a
  ·rw [show max a (max (-b) 0) = a by omega,if_neg (by omega)]
   have:=hb (by omega) (by omega)
   omega
  ·by_cases h2:b < 0
   ·rw [show max a (max (-b) 0) = -b by omega,if_neg (by omega),nb]
    have:=ha (by omega)
    omega
   ·rw [show max a (max (-b) 0) = 0 by omega,if_pos (by omega)]; rfl
 ·by_cases h1:-a ≤ b
  ·rw [show max b (-a) = b by omega]
   by_cases h2:a ≤ 0
   ·have:=hm (by omega) h1 h2
    omega
   ·have:=hb (by omega) (by omega)
    omega
  ·rw [show max b (-a) = -a by omega,na]
   by_cases h2:0 ≤ b
   ·have:=hn h2 (by omega)
    omega
   ·have:=ha (by omega)
    omega
theorem sq12 (a b:Int):sq1 a b ≤ sq2 a b:=by
 have h1:0 ≤ a * a:=by
  by_cases h:0 ≤ a
  ·exact Int.mul_nonneg h h
  ·have:=Int.mul_nonneg (show 0 ≤ -a by omega) (show 0 ≤ -a by omega)
   rwa [Int.neg_mul_neg] at this
 unfold sq1 sq2
 split <;> omega
def sqLo (a b:Int):Int:=if Ent a b then -2147483648 else mkLo (dn (sq1 a b) 65536) (up (sq2 a b) 65536)
def sqHi (a b:Int):Int:=if Ent a b then 2147483648 else mkHi (dn (sq1 a b) 65536) (up (sq2 a b) 65536)

set_option maxHeartbeats 1000000 in
theorem iv_magn (a b:Int) (w:World) (ha1:-2147483648 ≤ a) (hb2:b ≤ 2147483648) (hab:a ≤ b) :
  Calls Tryz.prog 171 #[.agg #[.int .i64 a,.int .i64 b]] w fun e w'=>e = .returned (.tuple #[.int .i64 (near a b),.int .i64 (max b (-a))])∧Below w.heap.size w w':=by
 have c1:=fun w=>iv_mag a b w ⟨by omega,by omega,by omega,by omega⟩
 generalize max b (-a) = m at *
 unfold near
 go_enter Tryz.func171,Tryz.ntmps171
 go_wp2_with (fail)
 generalize hW0:World.alloc w _ = W0
 have hT0:Below w.heap.size w W0:=by subst hW0; exact ((Below.refl w.heap.size w).alloc (by go_size) _)
 have S0:∀ g:Grown W0,w.heap.size < g.w.heap.size:=fun g=>Nat.lt_of_lt_of_le (by subst hW0; simp <;> omega) g.h.size
 have Y0:w.heap.size < W0.heap.size:=by subst hW0; simp <;> omega
 have F00:∀ g:Grown W0,g.w.cell? ⟨w.heap.size,0,none⟩ = some (.int .i64 a):=fun g=>(g.cell Y0).trans (by subst hW0; simp [go_sem])
 have H00:∀ g:Grown W0,g.w.frozen? ⟨w.heap.size,0,none⟩ = false:=fun g=>(g.frozen Y0).trans (by subst hW0; simp [go_sem])
 have F01:∀ g:Grown W0,g.w.cell? ⟨w.heap.size,1,none⟩ = some (.int .i64 b):=fun g=>(g.cell Y0).trans (by subst hW0; simp [go_sem])
 have H01:∀ g:Grown W0,g.w.frozen? ⟨w.heap.size,1,none⟩ = false:=fun g=>(g.frozen Y0).trans (by subst hW0; simp [go_sem])
 clear Y0
 clear hW0
 obtain ⟨g0,hg0⟩:∃ g:Grown W0,W0 = g.w:=⟨⟨W0,Below.refl _ _⟩,rfl⟩
 rw [hg0]
 clear hg0
 refine region_quiet' g0 (by kernel_rfl) (by kernel_rfl) ?_
 repeat (go_big_quiet_step ((go_at_call 189; exact qc (c1 _))))
 refine wpQuiet_nil ?_
 rintro _ ⟨g1,rfl⟩
 go_wp2_with (fail)
 have hB:Below w.heap.size w g1.w:=below_then hT0 g1.h
 go_ret2
 refine ⟨rfl,?_⟩
 go_grown

set_option maxHeartbeats 4000000 in
theorem iv_square (a b:Int) (w:World) (hv:VI a b) :
  Calls Tryz.prog 150 #[.agg #[.int .i64 a,.int .i64 b]] w fun e w'=>e = .returned (.agg #[.int .i64 (sqLo a b),.int .i64 (sqHi a b)])∧Below w.heap.size w w':=by
 unfold sqLo sqHi
 by_cases h1:Ent a b
 ·rw [if_pos h1,if_pos h1]
  obtain ⟨rfl,rfl⟩:=h1
  clear hv
  go_enter Tryz.func150,Tryz.ntmps150
  go_wp2_with (fail)
  generalize hW0:World.alloc (World.alloc w _) _ = W0
  have hT0:Below w.heap.size w W0:=by subst hW0; exact (((Below.refl w.heap.size w).alloc (by go_size) _).alloc (by go_size) _)
  have S0:∀ g:Grown W0,w.heap.size < g.w.heap.size:=fun g=>Nat.lt_of_lt_of_le (by subst hW0; simp <;> omega) g.h.size
  have Y0:w.heap.size < W0.heap.size:=by subst hW0; simp <;> omega
  have F00:∀ g:Grown W0,g.w.cell? ⟨w.heap.size,0,none⟩ = some (.int .i64 (-2147483648)):=fun g=>(g.cell Y0).trans (by subst hW0; simp [go_sem])
  have H00:∀ g:Grown W0,g.w.frozen? ⟨w.heap.size,0,none⟩ = false:=fun g=>(g.frozen Y0).trans (by subst hW0; simp [go_sem])
  have F01:∀ g:Grown W0,g.w.cell? ⟨w.heap.size,1,none⟩ = some (.int .i64 2147483648):=fun g=>(g.cell Y0).trans (by subst hW0; simp [go_sem])
  have H01:∀ g:Grown W0,g.w.frozen? ⟨w.heap.size,1,none⟩ = false:=fun g=>(g.frozen Y0).trans (by subst hW0; simp [go_sem])
  clear Y0
  have S1:∀ g:Grown W0,w.heap.size+1 < g.w.heap.size:=fun g=>Nat.lt_of_lt_of_le (by subst hW0; simp <;> omega) g.h.size
  have Y1:w.heap.size+1 < W0.heap.size:=by subst hW0; simp <;> omega
  have F10:∀ g:Grown W0,g.w.cell? ⟨w.heap.size+1,0,none⟩ = some (.int .i64 0):=fun g=>(g.cell Y1).trans (by subst hW0; simp [go_sem])
  have H10:∀ g:Grown W0,g.w.frozen? ⟨w.heap.size+1,0,none⟩ = false:=fun g=>(g.frozen Y1).trans (by subst hW0; simp [go_sem])
  have F11:∀ g:Grown W0,g.w.cell? ⟨w.heap.size+1,1,none⟩ = some (.int .i64 0):=fun g=>(g.cell Y1).trans (by subst hW0; simp [go_sem])
  have H11:∀ g:Grown W0,g.w.frozen? ⟨w.heap.size+1,1,none⟩ = false:=fun g=>(g.frozen Y1).trans (by subst hW0; simp [go_sem])
  clear Y1
  clear hW0
  obtain ⟨g0,hg0⟩:∃ g:Grown W0,W0 = g.w:=⟨⟨W0,Below.refl _ _⟩,rfl⟩
  rw [hg0]
  clear hg0
  refine (iv_ent_yes _).mono ?_
  rintro e1 w1 ⟨rfl,hB1⟩
  obtain ⟨g1,rfl⟩:=grow g0 hB1
  clear hB1
  go_wp2_with (fail)
  refine (iv_entire _).mono ?_
  rintro e2 w2 ⟨rfl,hB2⟩
  obtain ⟨g2,rfl⟩:=grow g1 hB2
  clear hB2
  go_wp2_with (fail)
  have hB:Below w.heap.size w g2.w:=below_then hT0 g2.h
  refine bodyPost_ret (v:=.agg #[.int .i64 (-2147483648),.int .i64 2147483648]) (by simp [results,Tryz.results150,go_sem,F10,F11]) rfl ⟨rfl,?_⟩
  go_grown
 ·rw [if_neg h1,if_neg h1]
  have h1':=Lib.hid h1
  obtain ⟨ha1,ha2,hb1,hb2,hab⟩:=hv.bd
  obtain ⟨k1,k2⟩:=sq_near hab
  have c1:=fun w=>iv_magn a b w ha1 hb2 hab
  have c2:=fun w=>mul_any (near a b) (near a b) w (by unfold near; omega) (by unfold near; omega) (by unfold near; omega) (by unfold near; omega)
  have c3:=fun w=>mul_any (max b (-a)) (max b (-a)) w (by omega) (by omega) (by omega) (by omega)
  rw [k1] at c2
  rw [k2] at c3
  have c4:=fun w=>iv_new (dn (sq1 a b) 65536) (up (sq2 a b) 65536) w (Int.le_trans (dn_mono (by decide) (sq12 a b)) (up_dn _ (by decide)).1)
  clear k1 k2 h1 hv
  generalize mkLo _ _ = x at *
  generalize mkHi _ _ = y at *
  generalize dn (sq1 a b) 65536 = m1 at *
  generalize up (sq1 a b) 65536 = m2 at *
  generalize dn (sq2 a b) 65536 = m3 at *
  generalize up (sq2 a b) 65536 = m4 at *
  generalize near a b = m5 at *
  generalize max b (-a) = m6 at *
  go_enter Tryz.func150,Tryz.ntmps150
  go_wp2_with (fail)
  generalize hW0:World.alloc (World.alloc w _) _ = W0
  have hT0:Below w.heap.size w W0:=by subst hW0; exact (((Below.refl w.heap.size w).alloc (by go_size) _).alloc (by go_size) _)
  have S0:∀ g:Grown W0,w.heap.size < g.w.heap.size:=fun g=>Nat.lt_of_lt_of_le (by subst hW0; simp <;> omega) g.h.size
  have Y0:w.heap.size < W0.heap.size:=by subst hW0; simp <;> omega
  have F00:∀ g:Grown W0,g.w.cell? ⟨w.heap.size,0,none⟩ = some (.int .i64 a):=fun g=>(g.cell Y0).trans (by subst hW0; simp [go_sem])
  have H00:∀ g:Grown W0,g.w.frozen? ⟨w.heap.size,0,none⟩ = false:=fun g=>(g.frozen Y0).trans (by subst hW0; simp [go_sem])
  have F01:∀ g:Grown W0,g.w.cell? ⟨w.heap.size,1,none⟩ = some (.int .i64 b):=fun g=>(g.cell Y0).trans (by subst hW0; simp [go_sem])
  have H01:∀ g:Grown W0,g.w.frozen? ⟨w.heap.size,1,none⟩ = false:=fun g=>(g.frozen Y0).trans (by subst hW0; simp [go_sem])
  clear Y0
  have S1:∀ g:Grown W0,w.heap.size+1 < g.w.heap.size:=fun g=>Nat.lt_of_lt_of_le (by subst hW0; simp <;> omega) g.h.size
  have Y1:w.heap.size+1 < W0.heap.size:=by subst hW0; simp <;> omega
  have F10:∀ g:Grown W0,g.w.cell? ⟨w.heap.size+1,0,none⟩ = some (.int .i64 0):=fun g=>(g.cell Y1).trans (by subst hW0; simp [go_sem])
  have H10:∀ g:Grown W0,g.w.frozen? ⟨w.heap.size+1,0,none⟩ = false:=fun g=>(g.frozen Y1).trans (by subst hW0; simp [go_sem])
  have F11:∀ g:Grown W0,g.w.cell? ⟨w.heap.size+1,1,none⟩ = some (.int .i64 0):=fun g=>(g.cell Y1).trans (by subst hW0; simp [go_sem])
  have H11:∀ g:Grown W0,g.w.frozen? ⟨w.heap.size+1,1,none⟩ = false:=fun g=>(g.frozen Y1).trans (by subst hW0; simp [go_sem])
  clear Y1
  clear hW0
  obtain ⟨g0,hg0⟩:∃ g:Grown W0,W0 = g.w:=⟨⟨W0,Below.refl _ _⟩,rfl⟩
  rw [hg0]
  clear hg0
  refine (iv_ent_no a b _ h1'.out).mono ?_
  rintro e1 w1 ⟨rfl,hB1⟩
  obtain ⟨g1,rfl⟩:=grow g0 hB1
  clear hB1
  go_wp2_with (fail)
  refine (c1 _).mono ?_
  rintro e2 w2 ⟨rfl,hB2⟩
  obtain ⟨g2,rfl⟩:=grow g1 hB2
  clear hB2
  go_wp2_with (fail)
  refine (c2 _).mono ?_
  rintro e3 w3 ⟨rfl,hB3⟩
  obtain ⟨g3,rfl⟩:=grow g2 hB3
  clear hB3
  go_wp2_with (fail)
  refine (c3 _).mono ?_
  rintro e4 w4 ⟨rfl,hB4⟩
  obtain ⟨g4,rfl⟩:=grow g3 hB4
  clear hB4
  go_wp2_with (fail)
  refine (c4 _).mono ?_
  rintro e5 w5 ⟨rfl,hB5⟩
  obtain ⟨g5,rfl⟩:=grow g4 hB5
  clear hB5
  go_wp2_with (fail)
  have hB:Below w.heap.size w g5.w:=below_then hT0 g5.h
  refine bodyPost_ret (v:=.agg #[.int .i64 x,.int .i64 y]) (by simp [results,Tryz.results150,go_sem,F10,F11]) rfl ⟨rfl,?_⟩
  go_grown

def mr1 (a b n d:Int):Int:=dn (min (a * n) (b * n)) d
def mr2 (a b n d:Int):Int:=up (max (a * n) (b * n)) d
def mrLo (a b n d:Int):Int:=if Ent a b then -2147483648 else mkLo (mr1 a b n d) (mr2 a b n d)
def mrHi (a b n d:Int):Int:=if Ent a b then 2147483648 else mkHi (mr1 a b n d) (mr2 a b n d)
theorem mr_le {a b n d:Int} (hd:0 < d):mr1 a b n d ≤ mr2 a b n d:=Int.le_trans (dn_mono hd (show min (a * n) (b * n) ≤ max (a * n) (b * n) by omega)) (up_dn _ hd).1
theorem mr_end {a b n:Int} (h:a ≤ b):(if decide (n < 0) = true then b else a) * n = min (a * n) (b * n)∧(if decide (n < 0) = true then a else b) * n = max (a * n) (b * n):=by
 have h1:0 ≤ n→a * n ≤ b * n:=fun hn=>Int.mul_le_mul_of_nonneg_right h hn
 have h2:n ≤ 0→b * n ≤ a * n:=fun hn=>Int.mul_le_mul_of_nonpos_right h hn
 by_cases hn:n < 0
 ·have:=h2 (by omega)
  simp only [hn,decide_true,if_true]
  omega
 ·have:=h1 (by omega)
  simp only [hn,decide_false,Bool.false_eq_true,if_false]
  omega

set_option maxHeartbeats 4000000 in
theorem iv_mulratio (a b n d:Int) (w:World) (hv:VI a b) (n1:-1073741824 ≤ n) (n2:n ≤ 1073741824) (d1:1 ≤ d) (d2:d ≤ 1073741824) :
  Calls Tryz.prog 153 #[.agg #[.int .i64 a,.int .i64 b],.int .i64 n,.int .i64 d] w fun e w'=>e = .returned (.agg #[.int .i64 (mrLo a b n d),.int .i64 (mrHi a b n d)])∧Below w.heap.size w w':=by
 unfold mrLo mrHi
 by_cases h1:Ent a b
 ·rw [if_pos h1,if_pos h1]
  obtain ⟨rfl,rfl⟩:=h1
  clear hv
  go_enter Tryz.func153,Tryz.ntmps153
  go_wp2_with (fail)
  generalize hW0:World.alloc (World.alloc w _) _ = W0
  have hT0:Below w.heap.size w W0:=by subst hW0; exact (((Below.refl w.heap.size w).alloc (by go_size) _).alloc (by go_size) _)
  have S0:∀ g:Grown W0,w.heap.size < g.w.heap.size:=fun g=>Nat.lt_of_lt_of_le (by subst hW0; simp <;> omega) g.h.size
  have Y0:w.heap.size < W0.heap.size:=by subst hW0; simp <;> omega
  have F00:∀ g:Grown W0,g.w.cell? ⟨w.heap.size,0,none⟩ = some (.int .i64 (-2147483648)):=fun g=>(g.cell Y0).trans (by subst hW0; simp [go_sem])
  have H00:∀ g:Grown W0,g.w.frozen? ⟨w.heap.size,0,none⟩ = false:=fun g=>(g.frozen Y0).trans (by subst hW0; simp [go_sem])
  have F01:∀ g:Grown W0,g.w.cell? ⟨w.heap.size,1,none⟩ = some (.int .i64 2147483648):=fun g=>(g.cell Y0).trans (by subst hW0; simp [go_sem])
  have H01:∀ g:Grown W0,g.w.frozen? ⟨w.heap.size,1,none⟩ = false:=fun g=>(g.frozen Y0).trans (by subst hW0; simp [go_sem])
  clear Y0
  have S1:∀ g:Grown W0,w.heap.size+1 < g.w.heap.size:=fun g=>Nat.lt_of_lt_of_le (by subst hW0; simp <;> omega) g.h.size
  have Y1:w.heap.size+1 < W0.heap.size:=by subst hW0; simp <;> omega
  have F10:∀ g:Grown W0,g.w.cell? ⟨w.heap.size+1,0,none⟩ = some (.int .i64 0):=fun g=>(g.cell Y1).trans (by subst hW0; simp [go_sem])
  have H10:∀ g:Grown W0,g.w.frozen? ⟨w.heap.size+1,0,none⟩ = false:=fun g=>(g.frozen Y1).trans (by subst hW0; simp [go_sem])
  have F11:∀ g:Grown W0,g.w.cell? ⟨w.heap.size+1,1,none⟩ = some (.int .i64 0):=fun g=>(g.cell Y1).trans (by subst hW0; simp [go_sem])
  have H11:∀ g:Grown W0,g.w.frozen? ⟨w.heap.size+1,1,none⟩ = false:=fun g=>(g.frozen Y1).trans (by subst hW0; simp [go_sem])
  clear Y1
  clear hW0
  obtain ⟨g0,hg0⟩:∃ g:Grown W0,W0 = g.w:=⟨⟨W0,Below.refl _ _⟩,rfl⟩
  rw [hg0]
  clear hg0
  refine (iv_ent_yes _).mono ?_
  rintro e1 w1 ⟨rfl,hB1⟩
  obtain ⟨g1,rfl⟩:=grow g0 hB1
  clear hB1
  go_wp2_with (fail)
  refine (iv_entire _).mono ?_
  rintro e2 w2 ⟨rfl,hB2⟩
  obtain ⟨g2,rfl⟩:=grow g1 hB2
  clear hB2
  go_wp2_with (fail)
  have hB:Below w.heap.size w g2.w:=below_then hT0 g2.h
  refine bodyPost_ret (v:=.agg #[.int .i64 (-2147483648),.int .i64 2147483648]) (by simp [results,Tryz.results153,go_sem,F10,F11]) rfl ⟨rfl,?_⟩
  go_grown
 ·rw [if_neg h1,if_neg h1]
  have h1':=Lib.hid h1
  obtain ⟨ha1,ha2,hb1,hb2,hab⟩:=hv.bd
  obtain ⟨k1,k2⟩:=mr_end (n:=n) hab
  have c1:=fun w=>ch_int (decide (n < 0)) b a w
  have c2:=fun w=>ch_int (decide (n < 0)) a b w
  have c3:=fun w=>ratio_any (if decide (n < 0) = true then b else a) n d w (by split <;> omega) (by split <;> omega) n1 n2 d1 d2
  have c4:=fun w=>ratio_any (if decide (n < 0) = true then a else b) n d w (by split <;> omega) (by split <;> omega) n1 n2 d1 d2
  rw [k1] at c3
  rw [k2] at c4
  have c5:=fun w=>iv_new (mr1 a b n d) (mr2 a b n d) w (mr_le (by omega))
  unfold mr1 mr2 at *
  clear k1 k2 h1 hv
  generalize mkLo _ _ = x at *
  generalize mkHi _ _ = y at *
  generalize dn (min (a * n) (b * n)) d = m1 at *
  generalize up (min (a * n) (b * n)) d = m2 at *
  generalize dn (max (a * n) (b * n)) d = m3 at *
  generalize up (max (a * n) (b * n)) d = m4 at *
  generalize (if decide (n < 0) = true then b else a) = m5 at *
  generalize (if decide (n < 0) = true then a else b) = m6 at *
  go_enter Tryz.func153,Tryz.ntmps153
  go_wp2_with (fail)
  generalize hW0:World.alloc (World.alloc w _) _ = W0
  have hT0:Below w.heap.size w W0:=by subst hW0; exact (((Below.refl w.heap.size w).alloc (by go_size) _).alloc (by go_size) _)
  have S0:∀ g:Grown W0,w.heap.size < g.w.heap.size:=fun g=>Nat.lt_of_lt_of_le (by subst hW0; simp <;> omega) g.h.size
  have Y0:w.heap.size < W0.heap.size:=by subst hW0; simp <;> omega
  have F00:∀ g:Grown W0,g.w.cell? ⟨w.heap.size,0,none⟩ = some (.int .i64 a):=fun g=>(g.cell Y0).trans (by subst hW0; simp [go_sem])
  have H00:∀ g:Grown W0,g.w.frozen? ⟨w.heap.size,0,none⟩ = false:=fun g=>(g.frozen Y0).trans (by subst hW0; simp [go_sem])
  have F01:∀ g:Grown W0,g.w.cell? ⟨w.heap.size,1,none⟩ = some (.int .i64 b):=fun g=>(g.cell Y0).trans (by subst hW0; simp [go_sem])
  have H01:∀ g:Grown W0,g.w.frozen? ⟨w.heap.size,1,none⟩ = false:=fun g=>(g.frozen Y0).trans (by subst hW0; simp [go_sem])
  clear Y0
  have S1:∀ g:Grown W0,w.heap.size+1 < g.w.heap.size:=fun g=>Nat.lt_of_lt_of_le (by subst hW0; simp <;> omega) g.h.size
  have Y1:w.heap.size+1 < W0.heap.size:=by subst hW0; simp <;> omega
  have F10:∀ g:Grown W0,g.w.cell? ⟨w.heap.size+1,0,none⟩ = some (.int .i64 0):=fun g=>(g.cell Y1).trans (by subst hW0; simp [go_sem])
  have H10:∀ g:Grown W0,g.w.frozen? ⟨w.heap.size+1,0,none⟩ = false:=fun g=>(g.frozen Y1).trans (by subst hW0; simp [go_sem])
  have F11:∀ g:Grown W0,g.w.cell? ⟨w.heap.size+1,1,none⟩ = some (.int .i64 0):=fun g=>(g.cell Y1).trans (by subst hW0; simp [go_sem])
  have H11:∀ g:Grown W0,g.w.frozen? ⟨w.heap.size+1,1,none⟩ = false:=fun g=>(g.frozen Y1).trans (by subst hW0; simp [go_sem])
  clear Y1
  clear hW0
  obtain ⟨g0,hg0⟩:∃ g:Grown W0,W0 = g.w:=⟨⟨W0,Below.refl _ _⟩,rfl⟩
  rw [hg0]
  clear hg0
  refine (iv_ent_no a b _ h1'.out).mono ?_
  rintro e1 w1 ⟨rfl,hB1⟩
  obtain ⟨g1,rfl⟩:=grow g0 hB1
  clear hB1
  go_wp2_with (fail)
  refine (c1 _).mono ?_
  rintro e2 w2 ⟨rfl,rfl⟩
  go_wp2_with (fail)
  refine (c3 _).mono ?_
  rintro e3 w3 ⟨rfl,hB3⟩
  obtain ⟨g3,rfl⟩:=grow g1 hB3
  clear hB3
  go_wp2_with (fail)
  refine (c2 _).mono ?_
  rintro e4 w4 ⟨rfl,rfl⟩
  go_wp2_with (fail)
  refine (c4 _).mono ?_
  rintro e5 w5 ⟨rfl,hB5⟩
  obtain ⟨g5,rfl⟩:=grow g3 hB5
  clear hB5
  go_wp2_with (fail)
  refine (c5 _).mono ?_
  rintro e6 w6 ⟨rfl,hB6⟩
  obtain ⟨g6,rfl⟩:=grow g5 hB6
  clear hB6
  go_wp2_with (fail)
  have hB:Below w.heap.size w g6.w:=below_then hT0 g6.h
  refine bodyPost_ret (v:=.agg #[.int .i64 x,.int .i64 y]) (by simp [results,Tryz.results153,go_sem,F10,F11]) rfl ⟨rfl,?_⟩
  go_grown

def rt1 (a:Int):Int:=isq (max a 0 * 65536)
def rt2 (b:Int):Int:=usq (b * 65536)
theorem rt_le {a b:Int} (h:a ≤ b) (hb:0 ≤ b):rt1 a ≤ rt2 b:=by
 have h1:=isq_mono (n:=max a 0 * 65536) (m:=b * 65536) (by omega) (by omega)
 unfold rt1 rt2 usq
 split <;> omega

set_option maxHeartbeats 1000000 in
theorem iv_sqrt_pos (a b:Int) (w:World) (h1:¬ Ent a b) (hab:a ≤ b) (hb:0 ≤ b) (hb2:b ≤ 2147483648) :
  Calls Tryz.prog 192 #[.agg #[.int .i64 a,.int .i64 b]] w fun e w'=>e = .returned (.tuple #[.agg #[.int .i64 (mkLo (rt1 a) (rt2 b)),.int .i64 (mkHi (rt1 a) (rt2 b))],.bool true])∧Below w.heap.size w w':=by
 have h1':=Lib.hid h1
 clear h1
 have c1:=fun w=>sqrt_any (max a 0) w (by omega) (by omega)
 have c2:=fun w=>sqrt_any b w hb hb2
 have c3:=fun w=>iv_new (rt1 a) (rt2 b) w (rt_le hab hb)
 unfold rt1 rt2 at *
 generalize mkLo _ _ = x at *
 generalize mkHi _ _ = y at *
 generalize isq (max a 0 * 65536) = m1 at *
 generalize usq (max a 0 * 65536) = m2 at *
 generalize isq (b * 65536) = m3 at *
 generalize usq (b * 65536) = m4 at *
 go_enter Tryz.func192,Tryz.ntmps192
 go_wp2_with (fail)
 generalize hW0:World.alloc (World.alloc w _) _ = W0
 have hT0:Below w.heap.size w W0:=by subst hW0; exact (((Below.refl w.heap.size w).alloc (by go_size) _).alloc (by go_size) _)
 have S0:∀ g:Grown W0,w.heap.size < g.w.heap.size:=fun g=>Nat.lt_of_lt_of_le (by subst hW0; simp <;> omega) g.h.size
 have Y0:w.heap.size < W0.heap.size:=by subst hW0; simp <;> omega
 have F00:∀ g:Grown W0,g.w.cell? ⟨w.heap.size,0,none⟩ = some (.int .i64 a):=fun g=>(g.cell Y0).trans (by subst hW0; simp [go_sem])
 have H00:∀ g:Grown W0,g.w.frozen? ⟨w.heap.size,0,none⟩ = false:=fun g=>(g.frozen Y0).trans (by subst hW0; simp [go_sem])
 have F01:∀ g:Grown W0,g.w.cell? ⟨w.heap.size,1,none⟩ = some (.int .i64 b):=fun g=>(g.cell Y0).trans (by subst hW0; simp [go_sem])
 have H01:∀ g:Grown W0,g.w.frozen? ⟨w.heap.size,1,none⟩ = false:=fun g=>(g.frozen Y0).trans (by subst hW0; simp [go_sem])
 clear Y0
 have S1:∀ g:Grown W0,w.heap.size+1 < g.w.heap.size:=fun g=>Nat.lt_of_lt_of_le (by subst hW0; simp <;> omega) g.h.size
 have Y1:w.heap.size+1 < W0.heap.size:=by subst hW0; simp <;> omega
 have F10:∀ g:Grown W0,g.w.cell? ⟨w.heap.size+1,0,none⟩ = some (.int .i64 0):=fun g=>(g.cell Y1).trans (by subst hW0; simp [go_sem])
 have H10:∀ g:Grown W0,g.w.frozen? ⟨w.heap.size+1,0,none⟩ = false:=fun g=>(g.frozen Y1).trans (by subst hW0; simp [go_sem])
 have F11:∀ g:Grown W0,g.w.cell? ⟨w.heap.size+1,1,none⟩ = some (.int .i64 0):=fun g=>(g.cell Y1).trans (by subst hW0; simp [go_sem])
 have H11:∀ g:Grown W0,g.w.frozen? ⟨w.heap.size+1,1,none⟩ = false:=fun g=>(g.frozen Y1).trans (by subst hW0; simp [go_sem])
 clear Y1
 clear hW0
 obtain ⟨g0,hg0⟩:∃ g:Grown W0,W0 = g.w:=⟨⟨W0,Below.refl _ _⟩,rfl⟩
 rw [hg0]
 clear hg0
 refine (iv_ent_no a b _ h1'.out).mono ?_
 rintro e1 w1 ⟨rfl,hB1⟩
 obtain ⟨g1,rfl⟩:=grow g0 hB1
 clear hB1
 go_wp2_with (fail)
 refine (c1 _).mono ?_
 rintro e2 w2 ⟨rfl,rfl⟩
 go_wp2_with (fail)
 refine (c2 _).mono ?_
 rintro e3 w3 ⟨rfl,rfl⟩
 go_wp2_with (fail)
 refine (c3 _).mono ?_
 rintro e4 w4 ⟨rfl,hB4⟩
 obtain ⟨g4,rfl⟩:=grow g1 hB4
 clear hB4
 go_wp2_with (fail)
 have hB:Below w.heap.size w g4.w:=below_then hT0 g4.h
 refine bodyPost_ret (v:=.tuple #[.agg #[.int .i64 x,.int .i64 y],.bool true]) (by simp [results,Tryz.results192,go_sem,F10,F11]) rfl ⟨rfl,?_⟩
 go_grown

theorem mk_meet {a b c d:Int} (h:VI a b) (k:VI c d) (hm:max a c ≤ min b d):mkLo (max a c) (min b d) = max a c∧mkHi (max a c) (min b d) = min b d:=by
 unfold mkLo mkHi Num
 rcases h with ⟨rfl,rfl⟩ | ⟨⟨h1,h2⟩,⟨h3,h4⟩,h5⟩
 all_goals rcases k with ⟨rfl,rfl⟩ | ⟨⟨k1,k2⟩,⟨k3,k4⟩,k5⟩
 all_goals (split <;> omega)

set_option maxHeartbeats 1000000 in
theorem iv_meet_no (a b c d:Int) (w:World) (h:min b d < max a c) :
  Calls Tryz.prog 129 #[.agg #[.int .i64 a,.int .i64 b],.agg #[.int .i64 c,.int .i64 d]] w fun e w'=>e = .returned (.tuple #[.agg #[.int .i64 0,.int .i64 0],.bool false])∧Below w.heap.size w w':=by
 obtain ⟨x,hx⟩:∃ x,max a c = x:=⟨_,rfl⟩
 obtain ⟨y,hy⟩:∃ y,min b d = y:=⟨_,rfl⟩
 rw [hx,hy] at h
 have hx':=Lib.hid hx
 have hy':=Lib.hid hy
 clear hx hy
 go_enter Tryz.func129,Tryz.ntmps129
 go_wp2_with (fail)
 generalize hW0:World.alloc (World.alloc (World.alloc w _) _) _ = W0
 have hT0:Below w.heap.size w W0:=by subst hW0; exact ((((Below.refl w.heap.size w).alloc (by go_size) _).alloc (by go_size) _).alloc (by go_size) _)
 have S0:∀ g:Grown W0,w.heap.size < g.w.heap.size:=fun g=>Nat.lt_of_lt_of_le (by subst hW0; simp <;> omega) g.h.size
 have Y0:w.heap.size < W0.heap.size:=by subst hW0; simp <;> omega
 have F00:∀ g:Grown W0,g.w.cell? ⟨w.heap.size,0,none⟩ = some (.int .i64 a):=fun g=>(g.cell Y0).trans (by subst hW0; simp [go_sem])
 have H00:∀ g:Grown W0,g.w.frozen? ⟨w.heap.size,0,none⟩ = false:=fun g=>(g.frozen Y0).trans (by subst hW0; simp [go_sem])
 have F01:∀ g:Grown W0,g.w.cell? ⟨w.heap.size,1,none⟩ = some (.int .i64 b):=fun g=>(g.cell Y0).trans (by subst hW0; simp [go_sem])
 have H01:∀ g:Grown W0,g.w.frozen? ⟨w.heap.size,1,none⟩ = false:=fun g=>(g.frozen Y0).trans (by subst hW0; simp [go_sem])
 clear Y0
 have S1:∀ g:Grown W0,w.heap.size+1 < g.w.heap.size:=fun g=>Nat.lt_of_lt_of_le (by subst hW0; simp <;> omega) g.h.size
 have Y1:w.heap.size+1 < W0.heap.size:=by subst hW0; simp <;> omega
 have F10:∀ g:Grown W0,g.w.cell? ⟨w.heap.size+1,0,none⟩ = some (.int .i64 c):=fun g=>(g.cell Y1).trans (by subst hW0; simp [go_sem])
 have H10:∀ g:Grown W0,g.w.frozen? ⟨w.heap.size+1,0,none⟩ = false:=fun g=>(g.frozen Y1).trans (by subst hW0; simp [go_sem])
 have F11:∀ g:Grown W0,g.w.cell? ⟨w.heap.size+1,1,none⟩ = some (.int .i64 d):=fun g=>(g.cell Y1).trans (by subst hW0; simp [go_sem])
 have H11:∀ g:Grown W0,g.w.frozen? ⟨w.heap.size+1,1,none⟩ = false:=fun g=>(g.frozen Y1).trans (by subst hW0; simp [go_sem])
 clear Y1
 have S2:∀ g:Grown W0,w.heap.size+1+1 < g.w.heap.size:=fun g=>Nat.lt_of_lt_of_le (by subst hW0; simp <;> omega) g.h.size
 have Y2:w.heap.size+1+1 < W0.heap.size:=by subst hW0; simp <;> omega
 have F20:∀ g:Grown W0,g.w.cell? ⟨w.heap.size+1+1,0,none⟩ = some (.int .i64 0):=fun g=>(g.cell Y2).trans (by subst hW0; simp [go_sem])
 have H20:∀ g:Grown W0,g.w.frozen? ⟨w.heap.size+1+1,0,none⟩ = false:=fun g=>(g.frozen Y2).trans (by subst hW0; simp [go_sem])
 have F21:∀ g:Grown W0,g.w.cell? ⟨w.heap.size+1+1,1,none⟩ = some (.int .i64 0):=fun g=>(g.cell Y2).trans (by subst hW0; simp [go_sem])
 have H21:∀ g:Grown W0,g.w.frozen? ⟨w.heap.size+1+1,1,none⟩ = false:=fun g=>(g.frozen Y2).trans (by subst hW0; simp [go_sem])
 clear Y2
 clear hW0
 obtain ⟨g0,hg0⟩:∃ g:Grown W0,W0 = g.w:=⟨⟨W0,Below.refl _ _⟩,rfl⟩
 rw [hg0]
 clear hg0
 refine region_quiet' g0 (by kernel_rfl) (by kernel_rfl) ?_
 repeat (go_big_quiet_step (fail))
 refine wpQuiet_nil ?_
 rintro _ ⟨g1,rfl⟩
 rw [hx'.out,hy'.out]
 go_wp2_with (fail)
 have hB:Below w.heap.size w g1.w:=below_then hT0 g1.h
 refine bodyPost_ret (v:=.tuple #[.agg #[.int .i64 0,.int .i64 0],.bool false]) (by simp [results,Tryz.results129,go_sem,F20,F21]) rfl ⟨rfl,?_⟩
 go_grown

set_option maxHeartbeats 1000000 in
theorem iv_meet_yes (a b c d:Int) (w:World) (hv:VI a b) (hw:VI c d) (h:max a c ≤ min b d) :
  Calls Tryz.prog 129 #[.agg #[.int .i64 a,.int .i64 b],.agg #[.int .i64 c,.int .i64 d]] w fun e w'=>e = .returned (.tuple #[.agg #[.int .i64 (max a c),.int .i64 (min b d)],.bool true])∧Below w.heap.size w w':=by
 have c1:=fun w=>iv_new (max a c) (min b d) w h
 rw [(mk_meet hv hw h).1,(mk_meet hv hw h).2] at c1
 clear hv hw
 obtain ⟨x,hx⟩:∃ x,max a c = x:=⟨_,rfl⟩
 obtain ⟨y,hy⟩:∃ y,min b d = y:=⟨_,rfl⟩
 rw [hx,hy] at h c1 ⊢
 have hx':=Lib.hid hx
 have hy':=Lib.hid hy
 clear hx hy
 go_enter Tryz.func129,Tryz.ntmps129
 go_wp2_with (fail)
 generalize hW0:World.alloc (World.alloc (World.alloc w _) _) _ = W0
 have hT0:Below w.heap.size w W0:=by subst hW0; exact ((((Below.refl w.heap.size w).alloc (by go_size) _).alloc (by go_size) _).alloc (by go_size) _)
 have S0:∀ g:Grown W0,w.heap.size < g.w.heap.size:=fun g=>Nat.lt_of_lt_of_le (by subst hW0; simp <;> omega) g.h.size
 have Y0:w.heap.size < W0.heap.size:=by subst hW0; simp <;> omega
 have F00:∀ g:Grown W0,g.w.cell? ⟨w.heap.size,0,none⟩ = some (.int .i64 a):=fun g=>(g.cell Y0).trans (by subst hW0; simp [go_sem])
 have H00:∀ g:Grown W0,g.w.frozen? ⟨w.heap.size,0,none⟩ = false:=fun g=>(g.frozen Y0).trans (by subst hW0; simp [go_sem])
 have F01:∀ g:Grown W0,g.w.cell? ⟨w.heap.size,1,none⟩ = some (.int .i64 b):=fun g=>(g.cell Y0).trans (by subst hW0; simp [go_sem])
 have H01:∀ g:Grown W0,g.w.frozen? ⟨w.heap.size,1,none⟩ = false:=fun g=>(g.frozen Y0).trans (by subst hW0; simp [go_sem])
 clear Y0
 have S1:∀ g:Grown W0,w.heap.size+1 < g.w.heap.size:=fun g=>Nat.lt_of_lt_of_le (by subst hW0; simp <;> omega) g.h.size
 have Y1:w.heap.size+1 < W0.heap.size:=by subst hW0; simp <;> omega
 have F10:∀ g:Grown W0,g.w.cell? ⟨w.heap.size+1,0,none⟩ = some (.int .i64 c):=fun g=>(g.cell Y1).trans (by subst hW0; simp [go_sem])
 have H10:∀ g:Grown W0,g.w.frozen? ⟨w.heap.size+1,0,none⟩ = false:=fun g=>(g.frozen Y1).trans (by subst hW0; simp [go_sem])
 have F11:∀ g:Grown W0,g.w.cell? ⟨w.heap.size+1,1,none⟩ = some (.int .i64 d):=fun g=>(g.cell Y1).trans (by subst hW0; simp [go_sem])
 have H11:∀ g:Grown W0,g.w.frozen? ⟨w.heap.size+1,1,none⟩ = false:=fun g=>(g.frozen Y1).trans (by subst hW0; simp [go_sem])
 clear Y1
 have S2:∀ g:Grown W0,w.heap.size+1+1 < g.w.heap.size:=fun g=>Nat.lt_of_lt_of_le (by subst hW0; simp <;> omega) g.h.size
 have Y2:w.heap.size+1+1 < W0.heap.size:=by subst hW0; simp <;> omega
 have F20:∀ g:Grown W0,g.w.cell? ⟨w.heap.size+1+1,0,none⟩ = some (.int .i64 0):=fun g=>(g.cell Y2).trans (by subst hW0; simp [go_sem])
 have H20:∀ g:Grown W0,g.w.frozen? ⟨w.heap.size+1+1,0,none⟩ = false:=fun g=>(g.frozen Y2).trans (by subst hW0; simp [go_sem])
 have F21:∀ g:Grown W0,g.w.cell? ⟨w.heap.size+1+1,1,none⟩ = some (.int .i64 0):=fun g=>(g.cell Y2).trans (by subst hW0; simp [go_sem])
 have H21:∀ g:Grown W0,g.w.frozen? ⟨w.heap.size+1+1,1,none⟩ = false:=fun g=>(g.frozen Y2).trans (by subst hW0; simp [go_sem])
 clear Y2
 clear hW0
 obtain ⟨g0,hg0⟩:∃ g:Grown W0,W0 = g.w:=⟨⟨W0,Below.refl _ _⟩,rfl⟩
 rw [hg0]
 clear hg0
 refine region_quiet' g0 (by kernel_rfl) (by kernel_rfl) ?_
 repeat (go_big_quiet_step (fail))
 refine wpQuiet_nil ?_
 rintro _ ⟨g1,rfl⟩
 rw [hx'.out,hy'.out]
 go_wp2_with (fail)
 refine (c1 _).mono ?_
 rintro e2 w2 ⟨rfl,hB2⟩
 obtain ⟨g2,rfl⟩:=grow g1 hB2
 clear hB2
 go_wp2_with (fail)
 have hB:Below w.heap.size w g2.w:=below_then hT0 g2.h
 refine bodyPost_ret (v:=.tuple #[.agg #[.int .i64 x,.int .i64 y],.bool true]) (by simp [results,Tryz.results129,go_sem,F20,F21]) rfl ⟨rfl,?_⟩
 go_grown
end Go.Proofs.YtekjflfkbgklhaaGreat
