/-
 Iw8 Iw9
-/
import Derived.Test.YtdfdpghdjlgghaaGreatKdh
import Derived.Test.YtdfdpghdjlgghaaGreatKdi
import Derived.Deep.RegionWith
namespace Go.Proofs.YtdfdpghdjlgghaaGreat
open Go.ChangeShapes Go.WideShapes Go.ChangeAt Go.RowKit
set_option linter.unusedVariables false
set_option linter.unusedSimpArgs false
set_option maxRecDepth 100000
open Go.BigFrame
theorem region_quiet' {P:Program} {id:Nat} {Q:Exit→Act→World→Prop} {a:Act} {W:World} (g:Grown W) {l:List Oper} (hm:P.follows .mixedOrders = true) (hB:Region.lexB .any l.toArray = true)
  (h:wpQuiet P l.toArray (fun w'=>∃ g:Grown W,w' = g.w) (fun a'=>∀ w',(∃ g:Grown W,w' = g.w)→Q .normal a' w') l a):(Code.region id l.toArray true).wp P Q a g.w :=
 wp_region_quiet (C:=fun w'=>∃ g:Grown W,w' = g.w) hm hB ⟨⟨{ g.w with drawn:=g.w.drawn+1 },g.h.trans ⟨rfl,rfl,rfl,Nat.le_refl _,fun _ _=>rfl⟩⟩,rfl⟩ (by simpa using h)

def mn4 (a b c d:Int):Int:=min (min (a * c) (a * d)) (min (b * c) (b * d))
def mx4 (a b c d:Int):Int:=max (max (a * c) (a * d)) (max (b * c) (b * d))
theorem up_mul_le {x y:Int} (z:Int) (hz:0 ≤ z) (h:x ≤ y):z * x ≤ z * y:=Int.mul_le_mul_of_nonneg_left h hz
theorem dn_mul_le {x y:Int} (z:Int) (hz:z ≤ 0) (h:x ≤ y):z * y ≤ z * x:=by
 have:=Int.mul_le_mul_of_nonneg_left h (show 0 ≤ -z by omega)
 rw [Int.neg_mul,Int.neg_mul] at this
 omega
theorem edges {a b c d:Int} (hab:a ≤ b) (hcd:c ≤ d) :
  (0 ≤ a→a * c ≤ a * d)∧(a ≤ 0→a * d ≤ a * c)∧(0 ≤ b→b * c ≤ b * d)∧(b ≤ 0→b * d ≤ b * c) ∧
  (0 ≤ c→a * c ≤ b * c)∧(c ≤ 0→b * c ≤ a * c)∧(0 ≤ d→a * d ≤ b * d)∧(d ≤ 0→b * d ≤ a * d):=by
 refine ⟨fun h=>up_mul_le a h hcd,fun h=>dn_mul_le a h hcd,fun h=>up_mul_le b h hcd,fun h=>dn_mul_le b h hcd,?_,?_,?_,?_⟩
 ·intro h; rw [Int.mul_comm a,Int.mul_comm b]; exact up_mul_le c h hab
 ·intro h; rw [Int.mul_comm a,Int.mul_comm b]; exact dn_mul_le c h hab
 ·intro h; rw [Int.mul_comm a,Int.mul_comm b]; exact up_mul_le d h hab
 ·intro h; rw [Int.mul_comm a,Int.mul_comm b]; exact dn_mul_le d h hab

structure Corn (a b c d c' d':Int) (i j:Int) (f g:FuncId) (p q r s:Int):Prop where
 s1:∀ w,Calls Tryz.prog 184 #[.agg #[.int .i64 a,.int .i64 b]] w fun e w'=>e = .returned (.int .i64 i)∧Below w.heap.size w w'
 s2:∀ w,Calls Tryz.prog 184 #[.agg #[.int .i64 c,.int .i64 d]] w fun e w'=>e = .returned (.int .i64 j)∧Below w.heap.size w w'
 cs:∀ w,Calls Tryz.prog 183 #[.int .i64 i,.int .i64 j] w fun e w'=>e = .returned (.tuple #[.func (.func f) #[] #[],.func (.func g) #[] #[]])∧Below w.heap.size w w'
 lo:∀ w,Calls Tryz.prog f #[.agg #[.int .i64 a,.int .i64 b],.agg #[.int .i64 c',.int .i64 d']] w fun e w'=>e = .returned (.tuple #[.int .i64 p,.int .i64 q])∧Below w.heap.size w w'
 hi:∀ w,Calls Tryz.prog g #[.agg #[.int .i64 a,.int .i64 b],.agg #[.int .i64 c',.int .i64 d']] w fun e w'=>e = .returned (.tuple #[.int .i64 r,.int .i64 s])∧Below w.heap.size w w'
 ef:∀ args w,(callFunc f args).run Tryz.prog w = .ok (.enter f args) w
 eg:∀ args w,(callFunc g args).run Tryz.prog w = .ok (.enter g args) w
 hp:p = a ∨ p = b
 hq:q = c' ∨ q = d'
 hr:r = a ∨ r = b
 hs:s = c' ∨ s = d'

theorem mul_corners (a b c d:Int) (ha1:-2147483648 ≤ a) (hb2:b ≤ 2147483648) (hab:a ≤ b) (hc1:-2147483648 ≤ c) (hd2:d ≤ 2147483648) (hcd:c ≤ d):∃ i j f g p q r s,Corn a b c d c d i j f g p q r s∧p * q = mn4 a b c d∧r * s = mx4 a b c d:=by
 obtain ⟨e1,e2,e3,e4,e5,e6,e7,e8⟩:=edges hab hcd
 unfold mn4 mx4
 rcases (by omega:b < 0 ∨ (a ≤ 0∧0 ≤ b) ∨ 0 < a) with h1 | h1 | h1
 ·rcases (by omega:d < 0 ∨ (c ≤ 0∧0 ≤ d) ∨ 0 < c) with h2 | h2 | h2
  ·
   exact ⟨(-1),(-1),215,219,b,d,a,c,⟨(fun w=>by have:=iv_sign a b w; rw [show sg a b = (-1) from by unfold sg; rw [if_neg (by omega),if_pos (by omega)]] at this; exact this),(fun w=>by have:=iv_sign c d w; rw [show sg c d = (-1) from by unfold sg; rw [if_neg (by omega),if_pos (by omega)]] at this; exact this),corners_00,cn_hh a b c d,cn_ll a b c d,fun _ _=>by simp [go_sem],fun _ _=>by simp [go_sem],by simp,by simp,by simp,by simp⟩,by omega,by omega⟩
  ·
   exact ⟨(-1),0,216,219,a,d,a,c,⟨(fun w=>by have:=iv_sign a b w; rw [show sg a b = (-1) from by unfold sg; rw [if_neg (by omega),if_pos (by omega)]] at this; exact this),(fun w=>by have:=iv_sign c d w; rw [show sg c d = 0 from by unfold sg; rw [if_neg (by omega),if_neg (by omega)]] at this; exact this),corners_01,cn_lh a b c d,cn_ll a b c d,fun _ _=>by simp [go_sem],fun _ _=>by simp [go_sem],by simp,by simp,by simp,by simp⟩,by omega,by omega⟩
  ·
   exact ⟨(-1),1,216,217,a,d,b,c,⟨(fun w=>by have:=iv_sign a b w; rw [show sg a b = (-1) from by unfold sg; rw [if_neg (by omega),if_pos (by omega)]] at this; exact this),(fun w=>by have:=iv_sign c d w; rw [show sg c d = 1 from by unfold sg; rw [if_pos (by omega)]] at this; exact this),corners_02,cn_lh a b c d,cn_hl a b c d,fun _ _=>by simp [go_sem],fun _ _=>by simp [go_sem],by simp,by simp,by simp,by simp⟩,by omega,by omega⟩
 ·rcases (by omega:d < 0 ∨ (c ≤ 0∧0 ≤ d) ∨ 0 < c) with h2 | h2 | h2
  ·
   exact ⟨0,(-1),217,219,b,c,a,c,⟨(fun w=>by have:=iv_sign a b w; rw [show sg a b = 0 from by unfold sg; rw [if_neg (by omega),if_neg (by omega)]] at this; exact this),(fun w=>by have:=iv_sign c d w; rw [show sg c d = (-1) from by unfold sg; rw [if_neg (by omega),if_pos (by omega)]] at this; exact this),corners_10,cn_hl a b c d,cn_ll a b c d,fun _ _=>by simp [go_sem],fun _ _=>by simp [go_sem],by simp,by simp,by simp,by simp⟩,by omega,by omega⟩
  ·
   by_cases h3:a * d < b * c
   ·by_cases h4:b * d < a * c
    ·
     exact ⟨0,0,218,220,a,d,a,c,⟨(fun w=>by have:=iv_sign a b w; rw [show sg a b = 0 from by unfold sg; rw [if_neg (by omega),if_neg (by omega)]] at this; exact this),(fun w=>by have:=iv_sign c d w; rw [show sg c d = 0 from by unfold sg; rw [if_neg (by omega),if_neg (by omega)]] at this; exact this),corners_11,(fun w=>cn_sm_0 a b c d w ⟨by omega,by omega⟩ ⟨by omega,by omega⟩ ⟨by omega,by omega⟩ ⟨by omega,by omega⟩ h3),(fun w=>cn_lu_0 a b c d w ⟨by omega,by omega⟩ ⟨by omega,by omega⟩ ⟨by omega,by omega⟩ ⟨by omega,by omega⟩ h4),fun _ _=>by simp [go_sem],fun _ _=>by simp [go_sem],by simp,by simp,by simp,by simp⟩,by omega,by omega⟩
    ·
     exact ⟨0,0,218,220,a,d,b,d,⟨(fun w=>by have:=iv_sign a b w; rw [show sg a b = 0 from by unfold sg; rw [if_neg (by omega),if_neg (by omega)]] at this; exact this),(fun w=>by have:=iv_sign c d w; rw [show sg c d = 0 from by unfold sg; rw [if_neg (by omega),if_neg (by omega)]] at this; exact this),corners_11,(fun w=>cn_sm_0 a b c d w ⟨by omega,by omega⟩ ⟨by omega,by omega⟩ ⟨by omega,by omega⟩ ⟨by omega,by omega⟩ h3),(fun w=>cn_lu_1 a b c d w ⟨by omega,by omega⟩ ⟨by omega,by omega⟩ ⟨by omega,by omega⟩ ⟨by omega,by omega⟩ h4),fun _ _=>by simp [go_sem],fun _ _=>by simp [go_sem],by simp,by simp,by simp,by simp⟩,by omega,by omega⟩
   ·by_cases h4:b * d < a * c
    ·
     exact ⟨0,0,218,220,b,c,a,c,⟨(fun w=>by have:=iv_sign a b w; rw [show sg a b = 0 from by unfold sg; rw [if_neg (by omega),if_neg (by omega)]] at this; exact this),(fun w=>by have:=iv_sign c d w; rw [show sg c d = 0 from by unfold sg; rw [if_neg (by omega),if_neg (by omega)]] at this; exact this),corners_11,(fun w=>cn_sm_1 a b c d w ⟨by omega,by omega⟩ ⟨by omega,by omega⟩ ⟨by omega,by omega⟩ ⟨by omega,by omega⟩ h3),(fun w=>cn_lu_0 a b c d w ⟨by omega,by omega⟩ ⟨by omega,by omega⟩ ⟨by omega,by omega⟩ ⟨by omega,by omega⟩ h4),fun _ _=>by simp [go_sem],fun _ _=>by simp [go_sem],by simp,by simp,by simp,by simp⟩,by omega,by omega⟩
    ·
     exact ⟨0,0,218,220,b,c,b,d,⟨(fun w=>by have:=iv_sign a b w; rw [show sg a b = 0 from by unfold sg; rw [if_neg (by omega),if_neg (by omega)]] at this; exact this),(fun w=>by have:=iv_sign c d w; rw [show sg c d = 0 from by unfold sg; rw [if_neg (by omega),if_neg (by omega)]] at this; exact this),corners_11,(fun w=>cn_sm_1 a b c d w ⟨by omega,by omega⟩ ⟨by omega,by omega⟩ ⟨by omega,by omega⟩ ⟨by omega,by omega⟩ h3),(fun w=>cn_lu_1 a b c d w ⟨by omega,by omega⟩ ⟨by omega,by omega⟩ ⟨by omega,by omega⟩ ⟨by omega,by omega⟩ h4),fun _ _=>by simp [go_sem],fun _ _=>by simp [go_sem],by simp,by simp,by simp,by simp⟩,by omega,by omega⟩
  ·
   exact ⟨0,1,216,215,a,d,b,d,⟨(fun w=>by have:=iv_sign a b w; rw [show sg a b = 0 from by unfold sg; rw [if_neg (by omega),if_neg (by omega)]] at this; exact this),(fun w=>by have:=iv_sign c d w; rw [show sg c d = 1 from by unfold sg; rw [if_pos (by omega)]] at this; exact this),corners_12,cn_lh a b c d,cn_hh a b c d,fun _ _=>by simp [go_sem],fun _ _=>by simp [go_sem],by simp,by simp,by simp,by simp⟩,by omega,by omega⟩
 ·rcases (by omega:d < 0 ∨ (c ≤ 0∧0 ≤ d) ∨ 0 < c) with h2 | h2 | h2
  ·
   exact ⟨1,(-1),217,216,b,c,a,d,⟨(fun w=>by have:=iv_sign a b w; rw [show sg a b = 1 from by unfold sg; rw [if_pos (by omega)]] at this; exact this),(fun w=>by have:=iv_sign c d w; rw [show sg c d = (-1) from by unfold sg; rw [if_neg (by omega),if_pos (by omega)]] at this; exact this),corners_20,cn_hl a b c d,cn_lh a b c d,fun _ _=>by simp [go_sem],fun _ _=>by simp [go_sem],by simp,by simp,by simp,by simp⟩,by omega,by omega⟩
  ·
   exact ⟨1,0,217,215,b,c,b,d,⟨(fun w=>by have:=iv_sign a b w; rw [show sg a b = 1 from by unfold sg; rw [if_pos (by omega)]] at this; exact this),(fun w=>by have:=iv_sign c d w; rw [show sg c d = 0 from by unfold sg; rw [if_neg (by omega),if_neg (by omega)]] at this; exact this),corners_21,cn_hl a b c d,cn_hh a b c d,fun _ _=>by simp [go_sem],fun _ _=>by simp [go_sem],by simp,by simp,by simp,by simp⟩,by omega,by omega⟩
  ·
   exact ⟨1,1,219,215,a,c,b,d,⟨(fun w=>by have:=iv_sign a b w; rw [show sg a b = 1 from by unfold sg; rw [if_pos (by omega)]] at this; exact this),(fun w=>by have:=iv_sign c d w; rw [show sg c d = 1 from by unfold sg; rw [if_pos (by omega)]] at this; exact this),corners_22,cn_ll a b c d,cn_hh a b c d,fun _ _=>by simp [go_sem],fun _ _=>by simp [go_sem],by simp,by simp,by simp,by simp⟩,by omega,by omega⟩


def mulLo (a b c d:Int):Int:=if Ent a b ∨ Ent c d then -2147483648 else mkLo (dn (mn4 a b c d) 65536) (up (mx4 a b c d) 65536)
def mulHi (a b c d:Int):Int:=if Ent a b ∨ Ent c d then 2147483648 else mkHi (dn (mn4 a b c d) 65536) (up (mx4 a b c d) 65536)
theorem mn_mx (a b c d:Int):mn4 a b c d ≤ mx4 a b c d:=by unfold mn4 mx4; omega
theorem dn_up_le {x y:Int} (h:x ≤ y):dn x 65536 ≤ up y 65536:=Int.le_trans (dn_mono (by decide) h) (up_dn y (by decide)).1

set_option maxHeartbeats 4000000 in
theorem iv_mul (a b c d:Int) (w:World) (hv:VI a b) (hw:VI c d) :
  Calls Tryz.prog 166 #[.agg #[.int .i64 a,.int .i64 b],.agg #[.int .i64 c,.int .i64 d]] w fun e w'=>e = .returned (.agg #[.int .i64 (mulLo a b c d),.int .i64 (mulHi a b c d)])∧Below w.heap.size w w':=by
 unfold mulLo mulHi
 by_cases h1:Ent a b
 ·rw [if_pos (.inl h1),if_pos (.inl h1)]
  obtain ⟨rfl,rfl⟩:=h1
  clear hv hw
  go_enter Tryz.func166,Tryz.ntmps166
  go_wp2_with (fail)
  generalize hW0:World.alloc (World.alloc (World.alloc w _) _) _ = W0
  have hT0:Below w.heap.size w W0:=by subst hW0; exact ((((Below.refl w.heap.size w).alloc (by go_size) _).alloc (by go_size) _).alloc (by go_size) _)
  have S0:∀ g:Grown W0,w.heap.size < g.w.heap.size:=fun g=>Nat.lt_of_lt_of_le (by subst hW0; simp <;> omega) g.h.size
  have Y0:w.heap.size < W0.heap.size:=by subst hW0; simp <;> omega
  have F00:∀ g:Grown W0,g.w.cell? ⟨w.heap.size,0,none⟩ = some (.int .i64 (-2147483648)):=fun g=>(g.cell Y0).trans (by subst hW0; simp [go_sem])
  have H00:∀ g:Grown W0,g.w.frozen? ⟨w.heap.size,0,none⟩ = false:=fun g=>(g.frozen Y0).trans (by subst hW0; simp [go_sem])
  have F01:∀ g:Grown W0,g.w.cell? ⟨w.heap.size,1,none⟩ = some (.int .i64 2147483648):=fun g=>(g.cell Y0).trans (by subst hW0; simp [go_sem])
  have H01:∀ g:Grown W0,g.w.frozen? ⟨w.heap.size,1,none⟩ = false:=fun g=>(g.frozen Y0).trans (by subst hW0; simp [go_sem])
  clear Y0
  have S1:∀ g:Grown W0,w.heap.size+1 < g.w.heap.size:=fun g=>Nat.lt_of_lt_of_le (by subst hW0; simp <;> omega) g.h.size
  have Y1:w.heap.size+1 < W0.heap.size:=by subst hW0; simp <;> omega
  have F10:∀ g:Grown W0,g.w.cell? ⟨w.heap.size+1,0,none⟩ = some (.int .i64 c):=fun g=>(g.cell Y1).trans (by subst hW0; simp [go_sem])
  have H10:∀ g:Grown W0,g.w.frozen? ⟨w.heap.size+1,0,none⟩ = false:=fun g=>(g.frozen Y1).trans (by subst hW0; simp [go_sem])
  have F11:∀ g:Grown W0,g.w.cell? ⟨w.heap.size+1,1,none⟩ = some (.int .i64 d):=fun g=>(g.cell Y1).trans (by subst hW0; simp [go_sem])
  have H11:∀ g:Grown W0,g.w.frozen? ⟨w.heap.size+1,1,none⟩ = false:=fun g=>(g.frozen Y1).trans (by subst hW0; simp [go_sem])
  clear Y1
  have S2:∀ g:Grown W0,w.heap.size+1+1 < g.w.heap.size:=fun g=>Nat.lt_of_lt_of_le (by subst hW0; simp <;> omega) g.h.size
  have Y2:w.heap.size+1+1 < W0.heap.size:=by subst hW0; simp <;> omega
  have F20:∀ g:Grown W0,g.w.cell? ⟨w.heap.size+1+1,0,none⟩ = some (.int .i64 0):=fun g=>(g.cell Y2).trans (by subst hW0; simp [go_sem])
  have H20:∀ g:Grown W0,g.w.frozen? ⟨w.heap.size+1+1,0,none⟩ = false:=fun g=>(g.frozen Y2).trans (by subst hW0; simp [go_sem])
  have F21:∀ g:Grown W0,g.w.cell? ⟨w.heap.size+1+1,1,none⟩ = some (.int .i64 0):=fun g=>(g.cell Y2).trans (by subst hW0; simp [go_sem])
  have H21:∀ g:Grown W0,g.w.frozen? ⟨w.heap.size+1+1,1,none⟩ = false:=fun g=>(g.frozen Y2).trans (by subst hW0; simp [go_sem])
  clear Y2
  clear hW0
  obtain ⟨g0,hg0⟩:∃ g:Grown W0,W0 = g.w:=⟨⟨W0,Below.refl _ _⟩,rfl⟩
  rw [hg0]
  clear hg0
  refine (iv_ent_yes _).mono ?_
  rintro e1 w1 ⟨rfl,hB1⟩
  obtain ⟨g1,rfl⟩:=grow g0 hB1
  clear hB1
  go_wp2_with (fail)
  refine (iv_entire _).mono ?_
  rintro e2 w2 ⟨rfl,hB2⟩
  obtain ⟨g2,rfl⟩:=grow g1 hB2
  clear hB2
  go_wp2_with (fail)
  have hB:Below w.heap.size w g2.w:=below_then hT0 g2.h
  refine bodyPost_ret (v:=.agg #[.int .i64 (-2147483648),.int .i64 2147483648]) (by simp [results,Tryz.results166,go_sem,F20,F21]) rfl ⟨rfl,?_⟩
  go_grown
 by_cases h2:Ent c d
 ·rw [if_pos (.inr h2),if_pos (.inr h2)]
  obtain ⟨rfl,rfl⟩:=h2
  have h1':=Lib.hid h1
  clear h1 hv hw
  go_enter Tryz.func166,Tryz.ntmps166
  go_wp2_with (fail)
  generalize hW0:World.alloc (World.alloc (World.alloc w _) _) _ = W0
  have hT0:Below w.heap.size w W0:=by subst hW0; exact ((((Below.refl w.heap.size w).alloc (by go_size) _).alloc (by go_size) _).alloc (by go_size) _)
  have S0:∀ g:Grown W0,w.heap.size < g.w.heap.size:=fun g=>Nat.lt_of_lt_of_le (by subst hW0; simp <;> omega) g.h.size
  have Y0:w.heap.size < W0.heap.size:=by subst hW0; simp <;> omega
  have F00:∀ g:Grown W0,g.w.cell? ⟨w.heap.size,0,none⟩ = some (.int .i64 a):=fun g=>(g.cell Y0).trans (by subst hW0; simp [go_sem])
  have H00:∀ g:Grown W0,g.w.frozen? ⟨w.heap.size,0,none⟩ = false:=fun g=>(g.frozen Y0).trans (by subst hW0; simp [go_sem])
  have F01:∀ g:Grown W0,g.w.cell? ⟨w.heap.size,1,none⟩ = some (.int .i64 b):=fun g=>(g.cell Y0).trans (by subst hW0; simp [go_sem])
  have H01:∀ g:Grown W0,g.w.frozen? ⟨w.heap.size,1,none⟩ = false:=fun g=>(g.frozen Y0).trans (by subst hW0; simp [go_sem])
  clear Y0
  have S1:∀ g:Grown W0,w.heap.size+1 < g.w.heap.size:=fun g=>Nat.lt_of_lt_of_le (by subst hW0; simp <;> omega) g.h.size
  have Y1:w.heap.size+1 < W0.heap.size:=by subst hW0; simp <;> omega
  have F10:∀ g:Grown W0,g.w.cell? ⟨w.heap.size+1,0,none⟩ = some (.int .i64 (-2147483648)):=fun g=>(g.cell Y1).trans (by subst hW0; simp [go_sem])
  have H10:∀ g:Grown W0,g.w.frozen? ⟨w.heap.size+1,0,none⟩ = false:=fun g=>(g.frozen Y1).trans (by subst hW0; simp [go_sem])
  have F11:∀ g:Grown W0,g.w.cell? ⟨w.heap.size+1,1,none⟩ = some (.int .i64 2147483648):=fun g=>(g.cell Y1).trans (by subst hW0; simp [go_sem])
  have H11:∀ g:Grown W0,g.w.frozen? ⟨w.heap.size+1,1,none⟩ = false:=fun g=>(g.frozen Y1).trans (by subst hW0; simp [go_sem])
  clear Y1
  have S2:∀ g:Grown W0,w.heap.size+1+1 < g.w.heap.size:=fun g=>Nat.lt_of_lt_of_le (by subst hW0; simp <;> omega) g.h.size
  have Y2:w.heap.size+1+1 < W0.heap.size:=by subst hW0; simp <;> omega
  have F20:∀ g:Grown W0,g.w.cell? ⟨w.heap.size+1+1,0,none⟩ = some (.int .i64 0):=fun g=>(g.cell Y2).trans (by subst hW0; simp [go_sem])
  have H20:∀ g:Grown W0,g.w.frozen? ⟨w.heap.size+1+1,0,none⟩ = false:=fun g=>(g.frozen Y2).trans (by subst hW0; simp [go_sem])
  have F21:∀ g:Grown W0,g.w.cell? ⟨w.heap.size+1+1,1,none⟩ = some (.int .i64 0):=fun g=>(g.cell Y2).trans (by subst hW0; simp [go_sem])
  have H21:∀ g:Grown W0,g.w.frozen? ⟨w.heap.size+1+1,1,none⟩ = false:=fun g=>(g.frozen Y2).trans (by subst hW0; simp [go_sem])
  clear Y2
  clear hW0
  obtain ⟨g0,hg0⟩:∃ g:Grown W0,W0 = g.w:=⟨⟨W0,Below.refl _ _⟩,rfl⟩
  rw [hg0]
  clear hg0
  refine (iv_ent_no a b _ h1'.out).mono ?_
  rintro e1 w1 ⟨rfl,hB1⟩
  obtain ⟨g1,rfl⟩:=grow g0 hB1
  clear hB1
  go_wp2_with (fail)
  refine (iv_ent_yes _).mono ?_
  rintro e2 w2 ⟨rfl,hB2⟩
  obtain ⟨g2,rfl⟩:=grow g1 hB2
  clear hB2
  go_wp2_with (fail)
  refine (iv_entire _).mono ?_
  rintro e3 w3 ⟨rfl,hB3⟩
  obtain ⟨g3,rfl⟩:=grow g2 hB3
  clear hB3
  go_wp2_with (fail)
  have hB:Below w.heap.size w g3.w:=below_then hT0 g3.h
  refine bodyPost_ret (v:=.agg #[.int .i64 (-2147483648),.int .i64 2147483648]) (by simp [results,Tryz.results166,go_sem,F20,F21]) rfl ⟨rfl,?_⟩
  go_grown
 ·rw [if_neg (by intro h; rcases h with h | h; exact h1 h; exact h2 h),if_neg (by intro h; rcases h with h | h; exact h1 h; exact h2 h)]
  obtain ⟨ha1,ha2,hb1,hb2,hab⟩:=hv.bd
  obtain ⟨hc1,hc2,hd1,hd2,hcd⟩:=hw.bd
  obtain ⟨i,j,f,g,p,q,r,s,K,k1,k2⟩:=mul_corners a b c d ha1 hb2 hab hc1 hd2 hcd
  have c1:=K.s1
  have c2:=K.s2
  have c3:=K.cs
  have c4:=K.lo
  have c5:=K.hi
  have ef:=K.ef
  have eg:=K.eg
  have c6:=fun w=>mul_any p q w (by rcases K.hp with h | h <;> omega) (by rcases K.hp with h | h <;> omega) (by rcases K.hq with h | h <;> omega) (by rcases K.hq with h | h <;> omega)
  have c7:=fun w=>mul_any r s w (by rcases K.hr with h | h <;> omega) (by rcases K.hr with h | h <;> omega) (by rcases K.hs with h | h <;> omega) (by rcases K.hs with h | h <;> omega)
  rw [k1] at c6
  rw [k2] at c7
  have c8:=fun w=>iv_new (dn (mn4 a b c d) 65536) (up (mx4 a b c d) 65536) w (dn_up_le (mn_mx a b c d))
  have h1':=Lib.hid h1
  have h2':=Lib.hid h2
  clear K k1 k2 h1 h2 hv hw ha1 ha2 hb1 hb2 hab hc1 hc2 hd1 hd2 hcd
  generalize mkLo _ _ = x at *
  generalize mkHi _ _ = y at *
  generalize dn (mn4 a b c d) 65536 = m1 at *
  generalize up (mn4 a b c d) 65536 = m2 at *
  generalize dn (mx4 a b c d) 65536 = m3 at *
  generalize up (mx4 a b c d) 65536 = m4 at *
  go_enter Tryz.func166,Tryz.ntmps166
  go_wp2_with (fail)
  generalize hW0:World.alloc (World.alloc (World.alloc w _) _) _ = W0
  have hT0:Below w.heap.size w W0:=by subst hW0; exact ((((Below.refl w.heap.size w).alloc (by go_size) _).alloc (by go_size) _).alloc (by go_size) _)
  have S0:∀ g:Grown W0,w.heap.size < g.w.heap.size:=fun g=>Nat.lt_of_lt_of_le (by subst hW0; simp <;> omega) g.h.size
  have Y0:w.heap.size < W0.heap.size:=by subst hW0; simp <;> omega
  have F00:∀ g:Grown W0,g.w.cell? ⟨w.heap.size,0,none⟩ = some (.int .i64 a):=fun g=>(g.cell Y0).trans (by subst hW0; simp [go_sem])
  have H00:∀ g:Grown W0,g.w.frozen? ⟨w.heap.size,0,none⟩ = false:=fun g=>(g.frozen Y0).trans (by subst hW0; simp [go_sem])
  have F01:∀ g:Grown W0,g.w.cell? ⟨w.heap.size,1,none⟩ = some (.int .i64 b):=fun g=>(g.cell Y0).trans (by subst hW0; simp [go_sem])
  have H01:∀ g:Grown W0,g.w.frozen? ⟨w.heap.size,1,none⟩ = false:=fun g=>(g.frozen Y0).trans (by subst hW0; simp [go_sem])
  clear Y0
  have S1:∀ g:Grown W0,w.heap.size+1 < g.w.heap.size:=fun g=>Nat.lt_of_lt_of_le (by subst hW0; simp <;> omega) g.h.size
  have Y1:w.heap.size+1 < W0.heap.size:=by subst hW0; simp <;> omega
  have F10:∀ g:Grown W0,g.w.cell? ⟨w.heap.size+1,0,none⟩ = some (.int .i64 c):=fun g=>(g.cell Y1).trans (by subst hW0; simp [go_sem])
  have H10:∀ g:Grown W0,g.w.frozen? ⟨w.heap.size+1,0,none⟩ = false:=fun g=>(g.frozen Y1).trans (by subst hW0; simp [go_sem])
  have F11:∀ g:Grown W0,g.w.cell? ⟨w.heap.size+1,1,none⟩ = some (.int .i64 d):=fun g=>(g.cell Y1).trans (by subst hW0; simp [go_sem])
  have H11:∀ g:Grown W0,g.w.frozen? ⟨w.heap.size+1,1,none⟩ = false:=fun g=>(g.frozen Y1).trans (by subst hW0; simp [go_sem])
  clear Y1
  have S2:∀ g:Grown W0,w.heap.size+1+1 < g.w.heap.size:=fun g=>Nat.lt_of_lt_of_le (by subst hW0; simp <;> omega) g.h.size
  have Y2:w.heap.size+1+1 < W0.heap.size:=by subst hW0; simp <;> omega
  have F20:∀ g:Grown W0,g.w.cell? ⟨w.heap.size+1+1,0,none⟩ = some (.int .i64 0):=fun g=>(g.cell Y2).trans (by subst hW0; simp [go_sem])
  have H20:∀ g:Grown W0,g.w.frozen? ⟨w.heap.size+1+1,0,none⟩ = false:=fun g=>(g.frozen Y2).trans (by subst hW0; simp [go_sem])
  have F21:∀ g:Grown W0,g.w.cell? ⟨w.heap.size+1+1,1,none⟩ = some (.int .i64 0):=fun g=>(g.cell Y2).trans (by subst hW0; simp [go_sem])
  have H21:∀ g:Grown W0,g.w.frozen? ⟨w.heap.size+1+1,1,none⟩ = false:=fun g=>(g.frozen Y2).trans (by subst hW0; simp [go_sem])
  clear Y2
  clear hW0
  obtain ⟨g0,hg0⟩:∃ g:Grown W0,W0 = g.w:=⟨⟨W0,Below.refl _ _⟩,rfl⟩
  rw [hg0]
  clear hg0
  refine (iv_ent_no a b _ h1'.out).mono ?_
  rintro e1 w1 ⟨rfl,hB1⟩
  obtain ⟨g1,rfl⟩:=grow g0 hB1
  clear hB1
  go_wp2_with (fail)
  refine (iv_ent_no c d _ h2'.out).mono ?_
  rintro e2 w2 ⟨rfl,hB2⟩
  obtain ⟨g2,rfl⟩:=grow g1 hB2
  clear hB2
  go_wp2_with (fail)
  refine region_quiet' g2 (by kernel_rfl) (by kernel_rfl) ?_
  repeat (go_big_quiet_step (first | (go_at_call_of 184 (Value.int .i64 a); exact qc (c1 _)) | (go_at_call_of 184 (Value.int .i64 c); exact qc (c2 _)) | (go_at_call 183; exact qc (c3 _))))
  refine wpQuiet_nil ?_
  rintro _ ⟨g3,rfl⟩
  go_wp2_with (fail)
  refine (c4 _).mono ?_
  rintro e4 w4 ⟨rfl,hB4⟩
  obtain ⟨g4,rfl⟩:=grow g3 hB4
  clear hB4
  go_wp2_with (fail)
  refine (c6 _).mono ?_
  rintro e5 w5 ⟨rfl,hB5⟩
  obtain ⟨g5,rfl⟩:=grow g4 hB5
  clear hB5
  go_wp2_with (fail)
  refine (c5 _).mono ?_
  rintro e6 w6 ⟨rfl,hB6⟩
  obtain ⟨g6,rfl⟩:=grow g5 hB6
  clear hB6
  go_wp2_with (fail)
  refine (c7 _).mono ?_
  rintro e7 w7 ⟨rfl,hB7⟩
  obtain ⟨g7,rfl⟩:=grow g6 hB7
  clear hB7
  go_wp2_with (fail)
  refine (c8 _).mono ?_
  rintro e8 w8 ⟨rfl,hB8⟩
  obtain ⟨g8,rfl⟩:=grow g7 hB8
  clear hB8
  go_wp2_with (fail)
  have hB:Below w.heap.size w g8.w:=below_then hT0 g8.h
  refine bodyPost_ret (v:=.agg #[.int .i64 x,.int .i64 y]) (by simp [results,Tryz.results166,go_sem,F20,F21]) rfl ⟨rfl,?_⟩
  go_grown
end Go.Proofs.YtdfdpghdjlgghaaGreat
namespace Go.Proofs.YtdfdpghdjlgghaaGreat
open Go.ChangeShapes Go.WideShapes Go.ChangeAt Go.RowKit
set_option linter.unusedVariables false
set_option linter.unusedSimpArgs false
set_option maxRecDepth 100000
open Go.BigFrame
theorem dn_anti {x c d:Int} (hc:0 < c) (hcd:c ≤ d):(0 ≤ x→dn x d ≤ dn x c)∧(x ≤ 0→dn x c ≤ dn x d):=by
 have hd:0 < d:=by omega
 refine ⟨fun h=>dn_le hc ?_,fun h=>dn_le hd ?_⟩
 ·have h0:0 ≤ dn x d:=dn_le hd (by omega)
  exact Int.le_trans (Int.mul_le_mul_of_nonneg_left hcd h0) (dn_mul x hd).1
 ·have h0:dn x c ≤ 0:=by
   have:=dn_mono hc h
   rw [show dn 0 c = 0 from dn_is hc (by omega) (by omega)] at this
   exact this
  exact Int.le_trans (Int.mul_le_mul_of_nonpos_left h0 hcd) (dn_mul x hc).1
theorem dn_anti2 {x c d:Int} (hs:0 < c ∨ d < 0) (hcd:c ≤ d):(0 ≤ x→dn x d ≤ dn x c)∧(x ≤ 0→dn x c ≤ dn x d):=by
 rcases hs with h | h
 ·exact dn_anti h hcd
 ·rw [← dn_flip x c,← dn_flip x d]
  have:=dn_anti (x:=-x) (c:=-d) (d:=-c) (by omega) (by omega)
  exact ⟨fun hx=>this.2 (by omega),fun hx=>this.1 (by omega)⟩
theorem up_anti2 {x c d:Int} (hs:0 < c ∨ d < 0) (hcd:c ≤ d):(0 ≤ x→up x d ≤ up x c)∧(x ≤ 0→up x c ≤ up x d):=by
 have:=dn_anti2 (x:=-x) hs hcd
 rw [dn_neg,dn_neg] at this
 exact ⟨fun hx=>by have:=this.2 (by omega); omega,fun hx=>by have:=this.1 (by omega); omega⟩
theorem dn_num {x y c:Int} (h:x ≤ y):(0 < c→dn x c ≤ dn y c)∧(c < 0→dn y c ≤ dn x c) :=
 ⟨fun hc=>dn_mono hc h,fun hc=>by rw [← dn_flip x c,← dn_flip y c]; exact dn_mono (by omega) (by omega)⟩
theorem up_num {x y c:Int} (h:x ≤ y):(0 < c→up x c ≤ up y c)∧(c < 0→up y c ≤ up x c) :=
 ⟨fun hc=>up_mono hc h,fun hc=>by rw [← up_flip x c,← up_flip y c]; exact up_mono (by omega) (by omega)⟩
def dv1 (a b c d:Int):Int:=min (min (dn (a * 65536) c) (dn (a * 65536) d)) (min (dn (b * 65536) c) (dn (b * 65536) d))
def dv2 (a b c d:Int):Int:=max (max (up (a * 65536) c) (up (a * 65536) d)) (max (up (b * 65536) c) (up (b * 65536) d))
theorem dn_le_up {x c:Int} (hc:¬ c = 0):dn x c ≤ up x c:=by
 by_cases h:0 < c
 ·exact (up_dn x h).1
 ·rw [← dn_flip x c,← up_flip x c]; exact (up_dn (-x) (by omega)).1
theorem dv_le {a b c d:Int} (hc:¬ c = 0):dv1 a b c d ≤ dv2 a b c d:=by
 unfold dv1 dv2
 have:=dn_le_up (x:=a * 65536) hc
 omega

def divLo (a b c d:Int):Int:=if Ent a b ∨ (c ≤ 0∧0 ≤ d) then -2147483648 else mkLo (dv1 a b c d) (dv2 a b c d)
def divHi (a b c d:Int):Int:=if Ent a b ∨ (c ≤ 0∧0 ≤ d) then 2147483648 else mkHi (dv1 a b c d) (dv2 a b c d)

end Go.Proofs.YtdfdpghdjlgghaaGreat
