/-
 Iw9
-/
import Derived.Test.YtekjflfkbgklhaaGreatKcj
namespace Go.Proofs.YtekjflfkbgklhaaGreat
open Go.ChangeShapes Go.WideShapes Go.ChangeAt Go.RowKit
set_option linter.unusedVariables false
set_option linter.unusedSimpArgs false
set_option maxRecDepth 100000
open Go.BigFrame
theorem dn_anti {x c d:Int} (hc:0 < c) (hcd:c ≤ d):(0 ≤ x→dn x d ≤ dn x c)∧(x ≤ 0→dn x c ≤ dn x d):=by
 have hd:0 < d:=by omega
 refine ⟨fun h=>dn_le hc ?_,fun h=>dn_le hd ?_⟩
 ·have h0:0 ≤ dn x d:=dn_le hd (by omega)
  exact Int.le_trans (Int.mul_le_mul_of_nonneg_left hcd h0) (dn_mul x hd).1
 ·have h0:dn x c ≤ 0:=by
   have:=dn_mono hc h
   rw [show dn 0 c = 0 from dn_is hc (by omega) (by omega)] at this
   exact this
  exact Int.le_trans (Int.mul_le_mul_of_nonpos_left h0 hcd) (dn_mul x hc).1
theorem dn_anti2 {x c d:Int} (hs:0 < c ∨ d < 0) (hcd:c ≤ d):(0 ≤ x→dn x d ≤ dn x c)∧(x ≤ 0→dn x c ≤ dn x d):=by
 rcases hs with h | h
 ·exact dn_anti h hcd
 ·rw [← dn_flip x c,← dn_flip x d]
  have:=dn_anti (x:=-x) (c:=-d) (d:=-c) (by omega) (by omega)
  exact ⟨fun hx=>this.2 (by omega),fun hx=>this.1 (by omega)⟩
theorem up_anti2 {x c d:Int} (hs:0 < c ∨ d < 0) (hcd:c ≤ d):(0 ≤ x→up x d ≤ up x c)∧(x ≤ 0→up x c ≤ up x d):=by
 have:=dn_anti2 (x:=-x) hs hcd
 rw [dn_neg,dn_neg] at this
 exact ⟨fun hx=>by have:=this.2 (by omega); omega,fun hx=>by have:=this.1 (by omega); omega⟩
theorem dn_num {x y c:Int} (h:x ≤ y):(0 < c→dn x c ≤ dn y c)∧(c < 0→dn y c ≤ dn x c) :=
 ⟨fun hc=>dn_mono hc h,fun hc=>by rw [← dn_flip x c,← dn_flip y c]; exact dn_mono (by omega) (by omega)⟩
theorem up_num {x y c:Int} (h:x ≤ y):(0 < c→up x c ≤ up y c)∧(c < 0→up y c ≤ up x c) :=
 ⟨fun hc=>up_mono hc h,fun hc=>by rw [← up_flip x c,← up_flip y c]; exact up_mono (by omega) (by omega)⟩
def dv1 (a b c d:Int):Int:=min (min (dn (a * 65536) c) (dn (a * 65536) d)) (min (dn (b * 65536) c) (dn (b * 65536) d))
def dv2 (a b c d:Int):Int:=max (max (up (a * 65536) c) (up (a * 65536) d)) (max (up (b * 65536) c) (up (b * 65536) d))
theorem dn_le_up {x c:Int} (hc:¬ c = 0):dn x c ≤ up x c:=by
 by_cases h:0 < c
 ·exact (up_dn x h).1
 ·rw [← dn_flip x c,← up_flip x c]; exact (up_dn (-x) (by omega)).1
theorem dv_le {a b c d:Int} (hc:¬ c = 0):dv1 a b c d ≤ dv2 a b c d:=by
 unfold dv1 dv2
 have:=dn_le_up (x:=a * 65536) hc
 omega

set_option maxHeartbeats 1000000 in
theorem div_corners (a b c d:Int) (ha1:-2147483648 ≤ a) (hb2:b ≤ 2147483648) (hab:a ≤ b) (hc1:-2147483648 ≤ c) (hd2:d ≤ 2147483648) (hcd:c ≤ d) (hs:0 < c ∨ d < 0):∃ i j f g p q r s,Corn a b c d d c i j f g p q r s∧dn (p * 65536) q = dv1 a b c d∧up (r * 65536) s = dv2 a b c d:=by
 obtain ⟨p1,p2⟩:=dn_anti2 (x:=a * 65536) hs hcd
 obtain ⟨p3,p4⟩:=dn_anti2 (x:=b * 65536) hs hcd
 obtain ⟨p5,p6⟩:=up_anti2 (x:=a * 65536) hs hcd
 obtain ⟨p7,p8⟩:=up_anti2 (x:=b * 65536) hs hcd
 obtain ⟨q1,q2⟩:=dn_num (x:=a * 65536) (y:=b * 65536) (c:=c) (by omega)
 obtain ⟨q3,q4⟩:=dn_num (x:=a * 65536) (y:=b * 65536) (c:=d) (by omega)
 obtain ⟨q5,q6⟩:=up_num (x:=a * 65536) (y:=b * 65536) (c:=c) (by omega)
 obtain ⟨q7,q8⟩:=up_num (x:=a * 65536) (y:=b * 65536) (c:=d) (by omega)
 unfold dv1 dv2
 rcases (by omega:b < 0 ∨ (a ≤ 0∧0 ≤ b) ∨ 0 < a) with h1 | h1 | h1
 ·rcases hs with h2 | h2
  ·exact ⟨(-1),1,181,182,a,c,b,d,⟨(fun w=>by have:=iv_sign a b w; rw [show sg a b = (-1) from by unfold sg; rw [if_neg (by omega),if_pos (by omega)]] at this; exact this),(fun w=>by have:=iv_sign c d w; rw [show sg c d = 1 from by unfold sg; rw [if_pos (by omega)]] at this; exact this),corners_02,cn_lh a b d c,cn_hl a b d c,fun _ _=>by simp [go_sem],fun _ _=>by simp [go_sem],by simp,by simp,by simp,by simp⟩,by omega,by omega⟩
  ·exact ⟨(-1),(-1),180,184,b,c,a,d,⟨(fun w=>by have:=iv_sign a b w; rw [show sg a b = (-1) from by unfold sg; rw [if_neg (by omega),if_pos (by omega)]] at this; exact this),(fun w=>by have:=iv_sign c d w; rw [show sg c d = (-1) from by unfold sg; rw [if_neg (by omega),if_pos (by omega)]] at this; exact this),corners_00,cn_hh a b d c,cn_ll a b d c,fun _ _=>by simp [go_sem],fun _ _=>by simp [go_sem],by simp,by simp,by simp,by simp⟩,by omega,by omega⟩
 ·rcases hs with h2 | h2
  ·exact ⟨0,1,181,180,a,c,b,c,⟨(fun w=>by have:=iv_sign a b w; rw [show sg a b = 0 from by unfold sg; rw [if_neg (by omega),if_neg (by omega)]] at this; exact this),(fun w=>by have:=iv_sign c d w; rw [show sg c d = 1 from by unfold sg; rw [if_pos (by omega)]] at this; exact this),corners_12,cn_lh a b d c,cn_hh a b d c,fun _ _=>by simp [go_sem],fun _ _=>by simp [go_sem],by simp,by simp,by simp,by simp⟩,by omega,by omega⟩
  ·exact ⟨0,(-1),182,184,b,d,a,d,⟨(fun w=>by have:=iv_sign a b w; rw [show sg a b = 0 from by unfold sg; rw [if_neg (by omega),if_neg (by omega)]] at this; exact this),(fun w=>by have:=iv_sign c d w; rw [show sg c d = (-1) from by unfold sg; rw [if_neg (by omega),if_pos (by omega)]] at this; exact this),corners_10,cn_hl a b d c,cn_ll a b d c,fun _ _=>by simp [go_sem],fun _ _=>by simp [go_sem],by simp,by simp,by simp,by simp⟩,by omega,by omega⟩
 ·rcases hs with h2 | h2
  ·exact ⟨1,1,184,180,a,d,b,c,⟨(fun w=>by have:=iv_sign a b w; rw [show sg a b = 1 from by unfold sg; rw [if_pos (by omega)]] at this; exact this),(fun w=>by have:=iv_sign c d w; rw [show sg c d = 1 from by unfold sg; rw [if_pos (by omega)]] at this; exact this),corners_22,cn_ll a b d c,cn_hh a b d c,fun _ _=>by simp [go_sem],fun _ _=>by simp [go_sem],by simp,by simp,by simp,by simp⟩,by omega,by omega⟩
  ·exact ⟨1,(-1),182,181,b,d,a,c,⟨(fun w=>by have:=iv_sign a b w; rw [show sg a b = 1 from by unfold sg; rw [if_pos (by omega)]] at this; exact this),(fun w=>by have:=iv_sign c d w; rw [show sg c d = (-1) from by unfold sg; rw [if_neg (by omega),if_pos (by omega)]] at this; exact this),corners_20,cn_hl a b d c,cn_lh a b d c,fun _ _=>by simp [go_sem],fun _ _=>by simp [go_sem],by simp,by simp,by simp,by simp⟩,by omega,by omega⟩

def divLo (a b c d:Int):Int:=if Ent a b ∨ (c ≤ 0∧0 ≤ d) then -2147483648 else mkLo (dv1 a b c d) (dv2 a b c d)
def divHi (a b c d:Int):Int:=if Ent a b ∨ (c ≤ 0∧0 ≤ d) then 2147483648 else mkHi (dv1 a b c d) (dv2 a b c d)

set_option maxHeartbeats 4000000 in
theorem iv_div (a b c d:Int) (w:World) (hv:VI a b) (hw:VI c d) :
  Calls Tryz.prog 179 #[.agg #[.int .i64 a,.int .i64 b],.agg #[.int .i64 c,.int .i64 d]] w fun e w'=>e = .returned (.agg #[.int .i64 (divLo a b c d),.int .i64 (divHi a b c d)])∧Below w.heap.size w w':=by
 unfold divLo divHi
 by_cases h1:Ent a b
 ·rw [if_pos (.inl h1),if_pos (.inl h1)]
  obtain ⟨rfl,rfl⟩:=h1
  clear hv hw
  go_enter Tryz.func179,Tryz.ntmps179
  go_wp2_with (fail)
  generalize hW0:World.alloc (World.alloc (World.alloc w _) _) _ = W0
  have hT0:Below w.heap.size w W0:=by subst hW0; exact ((((Below.refl w.heap.size w).alloc (by go_size) _).alloc (by go_size) _).alloc (by go_size) _)
  have S0:∀ g:Grown W0,w.heap.size < g.w.heap.size:=fun g=>Nat.lt_of_lt_of_le (by subst hW0; simp <;> omega) g.h.size
  have Y0:w.heap.size < W0.heap.size:=by subst hW0; simp <;> omega
  have F00:∀ g:Grown W0,g.w.cell? ⟨w.heap.size,0,none⟩ = some (.int .i64 (-2147483648)):=fun g=>(g.cell Y0).trans (by subst hW0; simp [go_sem])
  have H00:∀ g:Grown W0,g.w.frozen? ⟨w.heap.size,0,none⟩ = false:=fun g=>(g.frozen Y0).trans (by subst hW0; simp [go_sem])
  have F01:∀ g:Grown W0,g.w.cell? ⟨w.heap.size,1,none⟩ = some (.int .i64 2147483648):=fun g=>(g.cell Y0).trans (by subst hW0; simp [go_sem])
  have H01:∀ g:Grown W0,g.w.frozen? ⟨w.heap.size,1,none⟩ = false:=fun g=>(g.frozen Y0).trans (by subst hW0; simp [go_sem])
  clear Y0
  have S1:∀ g:Grown W0,w.heap.size+1 < g.w.heap.size:=fun g=>Nat.lt_of_lt_of_le (by subst hW0; simp <;> omega) g.h.size
  have Y1:w.heap.size+1 < W0.heap.size:=by subst hW0; simp <;> omega
  have F10:∀ g:Grown W0,g.w.cell? ⟨w.heap.size+1,0,none⟩ = some (.int .i64 c):=fun g=>(g.cell Y1).trans (by subst hW0; simp [go_sem])
  have H10:∀ g:Grown W0,g.w.frozen? ⟨w.heap.size+1,0,none⟩ = false:=fun g=>(g.frozen Y1).trans (by subst hW0; simp [go_sem])
  have F11:∀ g:Grown W0,g.w.cell? ⟨w.heap.size+1,1,none⟩ = some (.int .i64 d):=fun g=>(g.cell Y1).trans (by subst hW0; simp [go_sem])
  have H11:∀ g:Grown W0,g.w.frozen? ⟨w.heap.size+1,1,none⟩ = false:=fun g=>(g.frozen Y1).trans (by subst hW0; simp [go_sem])
  clear Y1
  have S2:∀ g:Grown W0,w.heap.size+1+1 < g.w.heap.size:=fun g=>Nat.lt_of_lt_of_le (by subst hW0; simp <;> omega) g.h.size
  have Y2:w.heap.size+1+1 < W0.heap.size:=by subst hW0; simp <;> omega
  have F20:∀ g:Grown W0,g.w.cell? ⟨w.heap.size+1+1,0,none⟩ = some (.int .i64 0):=fun g=>(g.cell Y2).trans (by subst hW0; simp [go_sem])
  have H20:∀ g:Grown W0,g.w.frozen? ⟨w.heap.size+1+1,0,none⟩ = false:=fun g=>(g.frozen Y2).trans (by subst hW0; simp [go_sem])
  have F21:∀ g:Grown W0,g.w.cell? ⟨w.heap.size+1+1,1,none⟩ = some (.int .i64 0):=fun g=>(g.cell Y2).trans (by subst hW0; simp [go_sem])
  have H21:∀ g:Grown W0,g.w.frozen? ⟨w.heap.size+1+1,1,none⟩ = false:=fun g=>(g.frozen Y2).trans (by subst hW0; simp [go_sem])
  clear Y2
  clear hW0
  obtain ⟨g0,hg0⟩:∃ g:Grown W0,W0 = g.w:=⟨⟨W0,Below.refl _ _⟩,rfl⟩
  rw [hg0]
  clear hg0
  refine (iv_ent_yes _).mono ?_
  rintro e1 w1 ⟨rfl,hB1⟩
  obtain ⟨g1,rfl⟩:=grow g0 hB1
  clear hB1
  go_wp2_with (fail)
  refine (iv_entire _).mono ?_
  rintro e2 w2 ⟨rfl,hB2⟩
  obtain ⟨g2,rfl⟩:=grow g1 hB2
  clear hB2
  go_wp2_with (fail)
  have hB:Below w.heap.size w g2.w:=below_then hT0 g2.h
  refine bodyPost_ret (v:=.agg #[.int .i64 (-2147483648),.int .i64 2147483648]) (by simp [results,Tryz.results179,go_sem,F20,F21]) rfl ⟨rfl,?_⟩
  go_grown
 have h1':=Lib.hid h1
 by_cases h2:c ≤ 0∧0 ≤ d
 ·rw [if_pos (.inr h2),if_pos (.inr h2)]
  have c0:=fun w=>iv_contains c d 0 true w (by simp [h2.1,h2.2])
  clear h1 h2 hv hw
  go_enter Tryz.func179,Tryz.ntmps179
  go_wp2_with (fail)
  generalize hW0:World.alloc (World.alloc (World.alloc w _) _) _ = W0
  have hT0:Below w.heap.size w W0:=by subst hW0; exact ((((Below.refl w.heap.size w).alloc (by go_size) _).alloc (by go_size) _).alloc (by go_size) _)
  have S0:∀ g:Grown W0,w.heap.size < g.w.heap.size:=fun g=>Nat.lt_of_lt_of_le (by subst hW0; simp <;> omega) g.h.size
  have Y0:w.heap.size < W0.heap.size:=by subst hW0; simp <;> omega
  have F00:∀ g:Grown W0,g.w.cell? ⟨w.heap.size,0,none⟩ = some (.int .i64 a):=fun g=>(g.cell Y0).trans (by subst hW0; simp [go_sem])
  have H00:∀ g:Grown W0,g.w.frozen? ⟨w.heap.size,0,none⟩ = false:=fun g=>(g.frozen Y0).trans (by subst hW0; simp [go_sem])
  have F01:∀ g:Grown W0,g.w.cell? ⟨w.heap.size,1,none⟩ = some (.int .i64 b):=fun g=>(g.cell Y0).trans (by subst hW0; simp [go_sem])
  have H01:∀ g:Grown W0,g.w.frozen? ⟨w.heap.size,1,none⟩ = false:=fun g=>(g.frozen Y0).trans (by subst hW0; simp [go_sem])
  clear Y0
  have S1:∀ g:Grown W0,w.heap.size+1 < g.w.heap.size:=fun g=>Nat.lt_of_lt_of_le (by subst hW0; simp <;> omega) g.h.size
  have Y1:w.heap.size+1 < W0.heap.size:=by subst hW0; simp <;> omega
  have F10:∀ g:Grown W0,g.w.cell? ⟨w.heap.size+1,0,none⟩ = some (.int .i64 c):=fun g=>(g.cell Y1).trans (by subst hW0; simp [go_sem])
  have H10:∀ g:Grown W0,g.w.frozen? ⟨w.heap.size+1,0,none⟩ = false:=fun g=>(g.frozen Y1).trans (by subst hW0; simp [go_sem])
  have F11:∀ g:Grown W0,g.w.cell? ⟨w.heap.size+1,1,none⟩ = some (.int .i64 d):=fun g=>(g.cell Y1).trans (by subst hW0; simp [go_sem])
  have H11:∀ g:Grown W0,g.w.frozen? ⟨w.heap.size+1,1,none⟩ = false:=fun g=>(g.frozen Y1).trans (by subst hW0; simp [go_sem])
  clear Y1
  have S2:∀ g:Grown W0,w.heap.size+1+1 < g.w.heap.size:=fun g=>Nat.lt_of_lt_of_le (by subst hW0; simp <;> omega) g.h.size
  have Y2:w.heap.size+1+1 < W0.heap.size:=by subst hW0; simp <;> omega
  have F20:∀ g:Grown W0,g.w.cell? ⟨w.heap.size+1+1,0,none⟩ = some (.int .i64 0):=fun g=>(g.cell Y2).trans (by subst hW0; simp [go_sem])
  have H20:∀ g:Grown W0,g.w.frozen? ⟨w.heap.size+1+1,0,none⟩ = false:=fun g=>(g.frozen Y2).trans (by subst hW0; simp [go_sem])
  have F21:∀ g:Grown W0,g.w.cell? ⟨w.heap.size+1+1,1,none⟩ = some (.int .i64 0):=fun g=>(g.cell Y2).trans (by subst hW0; simp [go_sem])
  have H21:∀ g:Grown W0,g.w.frozen? ⟨w.heap.size+1+1,1,none⟩ = false:=fun g=>(g.frozen Y2).trans (by subst hW0; simp [go_sem])
  clear Y2
  clear hW0
  obtain ⟨g0,hg0⟩:∃ g:Grown W0,W0 = g.w:=⟨⟨W0,Below.refl _ _⟩,rfl⟩
  rw [hg0]
  clear hg0
  refine (iv_ent_no a b _ h1'.out).mono ?_
  rintro e1 w1 ⟨rfl,hB1⟩
  obtain ⟨g1,rfl⟩:=grow g0 hB1
  clear hB1
  go_wp2_with (fail)
  refine (c0 _).mono ?_
  rintro e2 w2 ⟨rfl,hB2⟩
  obtain ⟨g2,rfl⟩:=grow g1 hB2
  clear hB2
  go_wp2_with (fail)
  refine (iv_entire _).mono ?_
  rintro e3 w3 ⟨rfl,hB3⟩
  obtain ⟨g3,rfl⟩:=grow g2 hB3
  clear hB3
  go_wp2_with (fail)
  have hB:Below w.heap.size w g3.w:=below_then hT0 g3.h
  refine bodyPost_ret (v:=.agg #[.int .i64 (-2147483648),.int .i64 2147483648]) (by simp [results,Tryz.results179,go_sem,F20,F21]) rfl ⟨rfl,?_⟩
  go_grown
 ·rw [if_neg (by intro h; rcases h with h | h; exact h1 h; exact h2 h),if_neg (by intro h; rcases h with h | h; exact h1 h; exact h2 h)]
  obtain ⟨ha1,ha2,hb1,hb2,hab⟩:=hv.bd
  obtain ⟨hc1,hc2,hd1,hd2,hcd⟩:=hw.bd
  have hs:0 < c ∨ d < 0:=by omega
  have c0:=fun w=>iv_contains c d 0 false w (by
   have hn:¬ Ent c d:=fun h=>h2 ⟨by have:=h.1; omega,by have:=h.2; omega⟩
   by_cases hc:c ≤ 0
   ·have hd':¬ 0 ≤ d:=by omega
    simp [hn,hd']
   ·simp [hn,hc])
  obtain ⟨i,j,f,g,p,q,r,s,K,k1,k2⟩:=div_corners a b c d ha1 hb2 hab hc1 hd2 hcd hs
  have c1:=K.s1
  have c2:=K.s2
  have c3:=K.cs
  have c4:=K.lo
  have c5:=K.hi
  have ef:=K.ef
  have eg:=K.eg
  have c6:=fun w=>div_any p q w (by rcases K.hp with h | h <;> omega) (by rcases K.hp with h | h <;> omega) (by rw [beq_eq_false_iff_ne]; rcases K.hq with h | h <;> omega)
  have c7:=fun w=>div_any r s w (by rcases K.hr with h | h <;> omega) (by rcases K.hr with h | h <;> omega) (by rw [beq_eq_false_iff_ne]; rcases K.hs with h | h <;> omega)
  rw [k1] at c6
  rw [k2] at c7
  have c8:=fun w=>iv_new (dv1 a b c d) (dv2 a b c d) w (dv_le (by omega))
  clear K k1 k2 h1 h2 hv hw ha1 ha2 hb1 hb2 hab hc1 hc2 hd1 hd2 hcd hs
  generalize mkLo _ _ = x at *
  generalize mkHi _ _ = y at *
  generalize dv1 a b c d = m1 at *
  generalize dv2 a b c d = m2 at *
  generalize up (p * 65536) q = m3 at *
  generalize dn (r * 65536) s = m4 at *
  go_enter Tryz.func179,Tryz.ntmps179
  go_wp2_with (fail)
  generalize hW0:World.alloc (World.alloc (World.alloc w _) _) _ = W0
  have hT0:Below w.heap.size w W0:=by subst hW0; exact ((((Below.refl w.heap.size w).alloc (by go_size) _).alloc (by go_size) _).alloc (by go_size) _)
  have S0:∀ g:Grown W0,w.heap.size < g.w.heap.size:=fun g=>Nat.lt_of_lt_of_le (by subst hW0; simp <;> omega) g.h.size
  have Y0:w.heap.size < W0.heap.size:=by subst hW0; simp <;> omega
  have F00:∀ g:Grown W0,g.w.cell? ⟨w.heap.size,0,none⟩ = some (.int .i64 a):=fun g=>(g.cell Y0).trans (by subst hW0; simp [go_sem])
  have H00:∀ g:Grown W0,g.w.frozen? ⟨w.heap.size,0,none⟩ = false:=fun g=>(g.frozen Y0).trans (by subst hW0; simp [go_sem])
  have F01:∀ g:Grown W0,g.w.cell? ⟨w.heap.size,1,none⟩ = some (.int .i64 b):=fun g=>(g.cell Y0).trans (by subst hW0; simp [go_sem])
  have H01:∀ g:Grown W0,g.w.frozen? ⟨w.heap.size,1,none⟩ = false:=fun g=>(g.frozen Y0).trans (by subst hW0; simp [go_sem])
  clear Y0
  have S1:∀ g:Grown W0,w.heap.size+1 < g.w.heap.size:=fun g=>Nat.lt_of_lt_of_le (by subst hW0; simp <;> omega) g.h.size
  have Y1:w.heap.size+1 < W0.heap.size:=by subst hW0; simp <;> omega
  have F10:∀ g:Grown W0,g.w.cell? ⟨w.heap.size+1,0,none⟩ = some (.int .i64 c):=fun g=>(g.cell Y1).trans (by subst hW0; simp [go_sem])
  have H10:∀ g:Grown W0,g.w.frozen? ⟨w.heap.size+1,0,none⟩ = false:=fun g=>(g.frozen Y1).trans (by subst hW0; simp [go_sem])
  have F11:∀ g:Grown W0,g.w.cell? ⟨w.heap.size+1,1,none⟩ = some (.int .i64 d):=fun g=>(g.cell Y1).trans (by subst hW0; simp [go_sem])
  have H11:∀ g:Grown W0,g.w.frozen? ⟨w.heap.size+1,1,none⟩ = false:=fun g=>(g.frozen Y1).trans (by subst hW0; simp [go_sem])
  clear Y1
  have S2:∀ g:Grown W0,w.heap.size+1+1 < g.w.heap.size:=fun g=>Nat.lt_of_lt_of_le (by subst hW0; simp <;> omega) g.h.size
  have Y2:w.heap.size+1+1 < W0.heap.size:=by subst hW0; simp <;> omega
  have F20:∀ g:Grown W0,g.w.cell? ⟨w.heap.size+1+1,0,none⟩ = some (.int .i64 0):=fun g=>(g.cell Y2).trans (by subst hW0; simp [go_sem])
  have H20:∀ g:Grown W0,g.w.frozen? ⟨w.heap.size+1+1,0,none⟩ = false:=fun g=>(g.frozen Y2).trans (by subst hW0; simp [go_sem])
  have F21:∀ g:Grown W0,g.w.cell? ⟨w.heap.size+1+1,1,none⟩ = some (.int .i64 0):=fun g=>(g.cell Y2).trans (by subst hW0; simp [go_sem])
  have H21:∀ g:Grown W0,g.w.frozen? ⟨w.heap.size+1+1,1,none⟩ = false:=fun g=>(g.frozen Y2).trans (by subst hW0; simp [go_sem])
  clear Y2
  clear hW0
  obtain ⟨g0,hg0⟩:∃ g:Grown W0,W0 = g.w:=⟨⟨W0,Below.refl _ _⟩,rfl⟩
  rw [hg0]
  clear hg0
  refine (iv_ent_no a b _ h1'.out).mono ?_
  rintro e1 w1 ⟨rfl,hB1⟩
  obtain ⟨g1,rfl⟩:=grow g0 hB1
  clear hB1
  go_wp2_with (fail)
  refine (c0 _).mono ?_
  rintro e2 w2 ⟨rfl,hB2⟩
  obtain ⟨g2,rfl⟩:=grow g1 hB2
  clear hB2
  go_wp2_with (fail)
  generalize hW1:World.alloc g2.w _ = W1
  have hT1:Below w.heap.size w W1:=by subst hW1; exact (below_then hT0 g2.h).alloc (below_then hT0 g2.h).size _
  obtain ⟨nb,hnb⟩:∃ nb,nb = g2.w.heap.size:=⟨_,rfl⟩
  have Y0:w.heap.size < W1.heap.size:=by subst hW1; have:=S0 g2; simp; omega
  have c00:=F00 g2
  have d00:=H00 g2
  have c01:=F01 g2
  have d01:=H01 g2
  have s0:=S0 g2
  clear S0 F00 F01 H00 H01
  have S0:∀ g:Grown W1,w.heap.size < g.w.heap.size:=fun g=>Nat.lt_of_lt_of_le Y0 g.h.size
  have F00:∀ g:Grown W1,g.w.cell? ⟨w.heap.size,0,none⟩ = some (.int .i64 a):=fun g=>(g.cell Y0).trans (by subst hW1; rw [← c00]; exact Below.cell ((Below.refl _ _).alloc (Nat.le_refl _) _) (p:=⟨w.heap.size,0,none⟩) s0)
  have H00:∀ g:Grown W1,g.w.frozen? ⟨w.heap.size,0,none⟩ = false:=fun g=>(g.frozen Y0).trans (by subst hW1; rw [← d00]; exact Below.frozen ((Below.refl _ _).alloc (Nat.le_refl _) _) (p:=⟨w.heap.size,0,none⟩) s0)
  have F01:∀ g:Grown W1,g.w.cell? ⟨w.heap.size,1,none⟩ = some (.int .i64 b):=fun g=>(g.cell Y0).trans (by subst hW1; rw [← c01]; exact Below.cell ((Below.refl _ _).alloc (Nat.le_refl _) _) (p:=⟨w.heap.size,1,none⟩) s0)
  have H01:∀ g:Grown W1,g.w.frozen? ⟨w.heap.size,1,none⟩ = false:=fun g=>(g.frozen Y0).trans (by subst hW1; rw [← d01]; exact Below.frozen ((Below.refl _ _).alloc (Nat.le_refl _) _) (p:=⟨w.heap.size,1,none⟩) s0)
  clear Y0 c00 c01 d00 d01 s0
  have Y1:w.heap.size+1 < W1.heap.size:=by subst hW1; have:=S1 g2; simp; omega
  have c10:=F10 g2
  have d10:=H10 g2
  have c11:=F11 g2
  have d11:=H11 g2
  have s1:=S1 g2
  clear S1 F10 F11 H10 H11
  have S1:∀ g:Grown W1,w.heap.size+1 < g.w.heap.size:=fun g=>Nat.lt_of_lt_of_le Y1 g.h.size
  have F10:∀ g:Grown W1,g.w.cell? ⟨w.heap.size+1,0,none⟩ = some (.int .i64 c):=fun g=>(g.cell Y1).trans (by subst hW1; rw [← c10]; exact Below.cell ((Below.refl _ _).alloc (Nat.le_refl _) _) (p:=⟨w.heap.size+1,0,none⟩) s1)
  have H10:∀ g:Grown W1,g.w.frozen? ⟨w.heap.size+1,0,none⟩ = false:=fun g=>(g.frozen Y1).trans (by subst hW1; rw [← d10]; exact Below.frozen ((Below.refl _ _).alloc (Nat.le_refl _) _) (p:=⟨w.heap.size+1,0,none⟩) s1)
  have F11:∀ g:Grown W1,g.w.cell? ⟨w.heap.size+1,1,none⟩ = some (.int .i64 d):=fun g=>(g.cell Y1).trans (by subst hW1; rw [← c11]; exact Below.cell ((Below.refl _ _).alloc (Nat.le_refl _) _) (p:=⟨w.heap.size+1,1,none⟩) s1)
  have H11:∀ g:Grown W1,g.w.frozen? ⟨w.heap.size+1,1,none⟩ = false:=fun g=>(g.frozen Y1).trans (by subst hW1; rw [← d11]; exact Below.frozen ((Below.refl _ _).alloc (Nat.le_refl _) _) (p:=⟨w.heap.size+1,1,none⟩) s1)
  clear Y1 c10 c11 d10 d11 s1
  have Y2:w.heap.size+1+1 < W1.heap.size:=by subst hW1; have:=S2 g2; simp; omega
  have c20:=F20 g2
  have d20:=H20 g2
  have c21:=F21 g2
  have d21:=H21 g2
  have s2:=S2 g2
  clear S2 F20 F21 H20 H21
  have S2:∀ g:Grown W1,w.heap.size+1+1 < g.w.heap.size:=fun g=>Nat.lt_of_lt_of_le Y2 g.h.size
  have F20:∀ g:Grown W1,g.w.cell? ⟨w.heap.size+1+1,0,none⟩ = some (.int .i64 0):=fun g=>(g.cell Y2).trans (by subst hW1; rw [← c20]; exact Below.cell ((Below.refl _ _).alloc (Nat.le_refl _) _) (p:=⟨w.heap.size+1+1,0,none⟩) s2)
  have H20:∀ g:Grown W1,g.w.frozen? ⟨w.heap.size+1+1,0,none⟩ = false:=fun g=>(g.frozen Y2).trans (by subst hW1; rw [← d20]; exact Below.frozen ((Below.refl _ _).alloc (Nat.le_refl _) _) (p:=⟨w.heap.size+1+1,0,none⟩) s2)
  have F21:∀ g:Grown W1,g.w.cell? ⟨w.heap.size+1+1,1,none⟩ = some (.int .i64 0):=fun g=>(g.cell Y2).trans (by subst hW1; rw [← c21]; exact Below.cell ((Below.refl _ _).alloc (Nat.le_refl _) _) (p:=⟨w.heap.size+1+1,1,none⟩) s2)
  have H21:∀ g:Grown W1,g.w.frozen? ⟨w.heap.size+1+1,1,none⟩ = false:=fun g=>(g.frozen Y2).trans (by subst hW1; rw [← d21]; exact Below.frozen ((Below.refl _ _).alloc (Nat.le_refl _) _) (p:=⟨w.heap.size+1+1,1,none⟩) s2)
  clear Y2 c20 c21 d20 d21 s2
  have Y3:nb < W1.heap.size:=by subst hW1; subst hnb; simp
  have S3:∀ g:Grown W1,nb < g.w.heap.size:=fun g=>Nat.lt_of_lt_of_le Y3 g.h.size
  have F30:∀ g:Grown W1,g.w.cell? ⟨nb,0,none⟩ = some (.int .i64 d):=fun g=>(g.cell Y3).trans (by subst hW1; subst hnb; simp [go_sem])
  have H30:∀ g:Grown W1,g.w.frozen? ⟨nb,0,none⟩ = false:=fun g=>(g.frozen Y3).trans (by subst hW1; subst hnb; simp [go_sem])
  have F31:∀ g:Grown W1,g.w.cell? ⟨nb,1,none⟩ = some (.int .i64 c):=fun g=>(g.cell Y3).trans (by subst hW1; subst hnb; simp [go_sem])
  have H31:∀ g:Grown W1,g.w.frozen? ⟨nb,1,none⟩ = false:=fun g=>(g.frozen Y3).trans (by subst hW1; subst hnb; simp [go_sem])
  clear Y3
  rw [← hnb]
  clear hnb hW1 hT0
  obtain ⟨h1,hg1⟩:∃ g:Grown W1,W1 = g.w:=⟨⟨W1,Below.refl _ _⟩,rfl⟩
  rw [hg1]
  clear hg1 g2
  refine region_quiet' h1 (by kernel_rfl) (by kernel_rfl) ?_
  repeat (go_big_quiet_step (first | (go_at_call_of 160 (Value.int .i64 a); exact qc (c1 _)) | (go_at_call_of 160 (Value.int .i64 c); exact qc (c2 _)) | (go_at_call 159; exact qc (c3 _))))
  refine wpQuiet_nil ?_
  rintro _ ⟨g3,rfl⟩
  go_wp2_with (fail)
  refine (c4 _).mono ?_
  rintro e4 w4 ⟨rfl,hB4⟩
  obtain ⟨g4,rfl⟩:=grow g3 hB4
  clear hB4
  go_wp2_with (fail)
  refine (c6 _).mono ?_
  rintro e5 w5 ⟨rfl,hB5⟩
  obtain ⟨g5,rfl⟩:=grow g4 hB5
  clear hB5
  go_wp2_with (fail)
  refine (c5 _).mono ?_
  rintro e6 w6 ⟨rfl,hB6⟩
  obtain ⟨g6,rfl⟩:=grow g5 hB6
  clear hB6
  go_wp2_with (fail)
  refine (c7 _).mono ?_
  rintro e7 w7 ⟨rfl,hB7⟩
  obtain ⟨g7,rfl⟩:=grow g6 hB7
  clear hB7
  go_wp2_with (fail)
  refine (c8 _).mono ?_
  rintro e8 w8 ⟨rfl,hB8⟩
  obtain ⟨g8,rfl⟩:=grow g7 hB8
  clear hB8
  go_wp2_with (fail)
  have hB:Below w.heap.size w g8.w:=below_then hT1 g8.h
  refine bodyPost_ret (v:=.agg #[.int .i64 x,.int .i64 y]) (by simp [results,Tryz.results179,go_sem,F20,F21]) rfl ⟨rfl,?_⟩
  go_grown
end Go.Proofs.YtekjflfkbgklhaaGreat
