/-
 Iw1
-/
import Derived.Test.YtdfdpghdjlgghaaGreatKda
import Derived.Test.YtdfdpghdjlgghaaGreatKdb
import Derived.BigQuiet
import Derived.KernelRfl
namespace Go.Proofs.YtdfdpghdjlgghaaGreat
open Go.ChangeShapes Go.WideShapes Go.ChangeAt Go.RowKit
set_option linter.unusedVariables false
set_option linter.unusedSimpArgs false
set_option maxRecDepth 100000
theorem new_iv (w:World):(Instr.alloc 66 true (.tuple #[])).run Tryz.prog w = .ok (.pointer (some ⟨w.heap.size,0,none⟩)) (w.alloc (.cells #[.int .i64 0,.int .i64 0] 66)):=by
 simp [go_sem]

section
variable {P:Program} {w0:World} {a:Act} {o:Oper}
theorem RQ_pure {v:Value} (h:∀ w,(execOp a.eval o).run P w = .ok (.value v) w):RQ P o a w0 v:=fun g=>by rw [h]; exact ⟨rfl,rfl⟩
theorem RQ_load {v:Value} {T:TypeId} {x:Operand} {p:Value} (hop:o.op = .load T x) (hx:a.eval x = p) (h:∀ g:Grown w0,(Instr.loadAt T p).run P g.w = .ok v g.w):RQ P o a w0 v:=fun g=>by
 have h1:(execOp a.eval o).run P g.w = .ok (.value v) g.w:=by
  obtain ⟨dst,op,type,pos,after,guard⟩:=o
  simp only at hop
  subst hop
  show ((Instr.loadAt T (a.eval x)) >>= fun x=>pure (.value x):Sem Next).run P g.w = _
  rw [hx]
  have:=h g
  generalize Instr.loadAt T p = m at this
  simp [go_sem,this]
 rw [h1]
 exact ⟨rfl,rfl⟩
theorem RQ_call {v:Value} {F:FuncId} {args:Array Value} (hc:∀ w,Calls P F args w fun e w'=>e = .returned v∧Below w.heap.size w w') (h:∀ w,(execOp a.eval o).run P w = .ok (.enter F args) w):RQ P o a w0 v:=fun g=>by
 rw [h]
 exact ⟨rfl,hc g.w⟩
theorem data_op {R:Act→Prop} {rest:List Oper} (v:Value) (h:isAl o = false) (hq:RQ P o a w0 v) (k:wpData P w0 R rest (a.put o.dst v)):wpData P w0 R (o :: rest) a:=by
 unfold wpData; rw [if_neg (by rw [h]; exact Bool.false_ne_true)]; exact ⟨v,hq,k⟩
theorem data_end {R:Act→Prop} (h:R a):wpData P w0 R [] a:=h
end
theorem iv_entire (w:World) :
  Calls Tryz.prog 111 #[] w fun e w'=>e = .returned (.agg #[.int .i64 (-2147483648),.int .i64 2147483648])∧Below w.heap.size w w':=by
 go_enter Tryz.func111,Tryz.ntmps111
 go_wp2
 refine bodyPost_ret (v:=.agg #[.int .i64 (-2147483648),.int .i64 2147483648]) (by simp [results,Tryz.results111,go_sem]) rfl ⟨rfl,?_⟩
 go_grown

theorem load_iv {w0:World} {b:Nat} {x y:Int} (hb:b < w0.heap.size) (h0:w0.cell? ⟨b,0,none⟩ = some (.int .i64 x)) (h1:w0.cell? ⟨b,1,none⟩ = some (.int .i64 y)) :
  ∀ g:Grown w0,(Instr.loadAt 66 (.pointer (some ⟨b,0,none⟩))).run Tryz.prog g.w = .ok (.agg #[.int .i64 x,.int .i64 y]) g.w:=fun g=>by
 have h0':=(g.cell (o:=0) hb).trans h0
 have h1':=(g.cell (o:=1) hb).trans h1
 simp [go_sem,h0',h1']

theorem iv_isent (a b:Int) (r:Bool) (w:World) (hr:((a == -2147483648) && (b == 2147483648)) = r) :
  Calls Tryz.prog 138 #[.agg #[.int .i64 a,.int .i64 b]] w fun e w'=>e = .returned (.bool r)∧Below w.heap.size w w':=by
 have hr':=Lib.hid hr
 clear hr
 go_enter Tryz.func138,Tryz.ntmps138
 go_wp2_with (fail)
 refine region_data 3 66 _ (by kernel_rfl) new_iv (by kernel_rfl) ?_
 refine data_op _ rfl (RQ_load rfl rfl (load_iv (x:=a) (y:=b) (by simp) (by simp [go_sem]) (by simp [go_sem]))) ?_
 refine data_op _ rfl (RQ_call iv_entire (fun _=>by simp [go_sem])) ?_
 refine data_op (.bool r) rfl (RQ_pure (fun w=>by rw [← hr'.out]; by_cases h1:a = -2147483648 <;> by_cases h2:b = 2147483648 <;> simp [go_sem,h1,h2])) ?_
 refine data_end ?_
 intro w' hB
 have hB':=below_then ((Below.refl _ _).alloc (Nat.le_refl _) _) hB
 simp only [Act.put,List.drop_succ_cons,List.drop_zero,List.take_succ_cons,List.take_zero,alDsts,List.filterMap_cons,List.filterMap_nil,isAl,Bool.false_eq_true,if_false,if_true,finK]
 go_wp2_with (fail)
 go_ret
 exact ⟨rfl,hB'⟩
end Go.Proofs.YtdfdpghdjlgghaaGreat
namespace Go.Proofs.YtdfdpghdjlgghaaGreat
open Go.ChangeShapes Go.WideShapes Go.ChangeAt Go.RowKit
set_option linter.unusedVariables false
set_option linter.unusedSimpArgs false
set_option maxRecDepth 100000
def Bd (a b:Int):Prop:=Num a∧Num b∧a ≤ b
instance (a b:Int):Decidable (Bd a b):=inferInstanceAs (Decidable (_∧_))

theorem fx_valid (x:Int) (r:Bool) (w:World) (h:decide (Num x) = r) :
  Calls Tryz.prog 130 #[.int .i64 x] w fun e w'=>e = .returned (.bool r)∧w = w':=by
 refine (valid_any x w).mono ?_
 rintro e w' ⟨he,hw⟩
 refine ⟨?_,hw⟩
 rw [he,← h]
 congr 2
 unfold Num
 by_cases h1:-2147483648 < x <;> by_cases h2:x < 2147483648 <;> simp [h1,h2]

theorem iv_bounded (a b:Int) (r:Bool) (w:World) (h:decide (Bd a b) = r) :
  Calls Tryz.prog 110 #[.agg #[.int .i64 a,.int .i64 b]] w fun e w'=>e = .returned (.bool r)∧Below w.heap.size w w':=by
 by_cases h1:Num a
 ·have c1:=fun w=>fx_valid a true w (by simp [h1])
  by_cases h2:Num b
  ·have c2:=fun w=>fx_valid b true w (by simp [h2])
   have hr:decide (a ≤ b) = r:=by rw [← h]; unfold Bd; simp [h1,h2]
   clear h h1 h2
   go_enter Tryz.func110,Tryz.ntmps110
   go_wp2_with (fail)
   refine (c1 _).mono ?_
   rintro e1 w1 ⟨rfl,rfl⟩
   go_wp2_with (fail)
   refine (c2 _).mono ?_
   rintro e2 w2 ⟨rfl,rfl⟩
   go_wp2_with (fail)
   go_ret
   refine ⟨by first | rfl | simp [hr],?_⟩
   go_grown
  ·have c2:=fun w=>fx_valid b false w (by simp [h2])
   have hr:r = false:=by rw [← h]; unfold Bd; simp [h2]
   subst hr
   clear h h1 h2
   go_enter Tryz.func110,Tryz.ntmps110
   go_wp2_with (fail)
   refine (c1 _).mono ?_
   rintro e1 w1 ⟨rfl,rfl⟩
   go_wp2_with (fail)
   refine (c2 _).mono ?_
   rintro e2 w2 ⟨rfl,rfl⟩
   go_wp2_with (fail)
   go_ret
   refine ⟨rfl,?_⟩
   go_grown
 ·have c1:=fun w=>fx_valid a false w (by simp [h1])
  have hr:r = false:=by rw [← h]; unfold Bd; simp [h1]
  subst hr
  clear h h1
  go_enter Tryz.func110,Tryz.ntmps110
  go_wp2_with (fail)
  refine (c1 _).mono ?_
  rintro e1 w1 ⟨rfl,rfl⟩
  go_wp2_with (fail)
  go_ret
  refine ⟨rfl,?_⟩
  go_grown

theorem ch_int (c:Bool) (x y:Int) (w:World) :
  Calls Tryz.prog 197 #[.bool c,.int .i64 x,.int .i64 y] w fun e w'=>e = .returned (.int .i64 (if c = true then x else y))∧w = w':=by
 cases c
 all_goals
  go_enter Tryz.func197,Tryz.ntmps197
  go_wp2
  go_ret
  exact ⟨rfl,rfl⟩
theorem ch_fun (c:Bool) (f g:FuncId) (w:World) :
  Calls Tryz.prog 233 #[.bool c,.func (.func f) #[] #[],.func (.func g) #[] #[]] w fun e w'=>e = .returned (.func (.func (if c = true then f else g)) #[] #[])∧w = w':=by
 cases c
 all_goals
  go_enter Tryz.func233,Tryz.ntmps233
  go_wp2
  go_ret
  exact ⟨rfl,rfl⟩
theorem ch_iv (c:Bool) (x y x' y':Int) (w:World) :
  Calls Tryz.prog 109 #[.bool c,.agg #[.int .i64 x,.int .i64 y],.agg #[.int .i64 x',.int .i64 y']] w fun e w'=>e = .returned (.agg #[.int .i64 (if c = true then x else x'),.int .i64 (if c = true then y else y')])∧Below w.heap.size w w':=by
 cases c
 ·go_enter Tryz.func109,Tryz.ntmps109
  go_wp2
  refine bodyPost_ret (v:=.agg #[.int .i64 x',.int .i64 y']) (by simp [results,Tryz.results109,go_sem]) rfl ⟨rfl,?_⟩
  go_grown
 ·go_enter Tryz.func109,Tryz.ntmps109
  go_wp2
  refine bodyPost_ret (v:=.agg #[.int .i64 x,.int .i64 y]) (by simp [results,Tryz.results109,go_sem]) rfl ⟨rfl,?_⟩
  go_grown

theorem iv_new (lo hi:Int) (w:World) (h:lo ≤ hi) :
  Calls Tryz.prog 83 #[.int .i64 lo,.int .i64 hi] w fun e w'=>e = .returned (.agg #[.int .i64 (mkLo lo hi),.int .i64 (mkHi lo hi)])∧Below w.heap.size w w':=by
 obtain ⟨r,hr⟩:∃ r,decide (Bd lo hi) = r:=⟨_,rfl⟩
 have e1:(if r = true then lo else -2147483648) = mkLo lo hi:=by
  rw [← hr]; unfold Bd mkLo; by_cases h1:Num lo <;> by_cases h2:Num hi <;> simp [h1,h2,h]
 have e2:(if r = true then hi else 2147483648) = mkHi lo hi:=by
  rw [← hr]; unfold Bd mkHi; by_cases h1:Num lo <;> by_cases h2:Num hi <;> simp [h1,h2,h]
 have c1:=fun w=>iv_bounded lo hi r w hr
 have c2:=fun w=>ch_iv r lo hi (-2147483648) 2147483648 w
 rw [e1,e2] at c2
 generalize mkLo lo hi = p at *
 generalize mkHi lo hi = q at *
 clear e1 e2 hr
 go_enter Tryz.func83,Tryz.ntmps83
 go_wp2_with (fail)
 refine region_data 5 66 _ (by kernel_rfl) new_iv (by kernel_rfl) ?_
 refine data_op _ rfl (RQ_load rfl rfl (load_iv (x:=lo) (y:=hi) (by simp) (by simp [go_sem]) (by simp [go_sem]))) ?_
 refine data_op _ rfl (RQ_call c1 (fun _=>by simp [go_sem])) ?_
 refine data_op _ rfl (RQ_load rfl rfl (load_iv (x:=lo) (y:=hi) (by simp) (by simp [go_sem]) (by simp [go_sem]))) ?_
 refine data_op _ rfl (RQ_call iv_entire (fun _=>by simp [go_sem])) ?_
 refine data_op _ rfl (RQ_call c2 (fun _=>by simp [go_sem])) ?_
 refine data_end ?_
 intro w' hB
 obtain ⟨kc,kf⟩:=bcell hB
 have hz:=hB.size
 simp only [World.size_alloc] at hz
 have hs0:w.heap.size < w'.heap.size:=by omega
 have hs1:w.heap.size+1 < w'.heap.size:=by omega
 have q0:w'.cell? ⟨w.heap.size,0,none⟩ = some (.int .i64 0):=(kc _ _ (by simp; omega)).trans (by simp [go_sem])
 have q1:w'.cell? ⟨w.heap.size,1,none⟩ = some (.int .i64 0):=(kc _ _ (by simp; omega)).trans (by simp [go_sem])
 simp only [Act.put,List.drop_succ_cons,List.drop_zero,List.take_succ_cons,List.take_zero,alDsts,List.filterMap_cons,List.filterMap_nil,isAl,Bool.false_eq_true,if_false,finK]
 go_wp2_with (fail)
 refine bodyPost_ret (v:=.agg #[.int .i64 p,.int .i64 q]) (by simp [results,Tryz.results83,go_sem,q0,q1]) rfl ⟨rfl,?_⟩
 have hB':=below_then (((Below.refl w.heap.size w).alloc (Nat.le_refl _) _).alloc (by simp) _) hB
 go_grown

theorem iv_point (x:Int) (w:World) :
  Calls Tryz.prog 96 #[.int .i64 x] w fun e w'=>e = .returned (.agg #[.int .i64 (mkLo x x),.int .i64 (mkHi x x)])∧Below w.heap.size w w':=by
 have c:=fun w=>iv_new x x w (Int.le_refl _)
 generalize mkLo x x = p at *
 generalize mkHi x x = q at *
 go_enter Tryz.func96,Tryz.ntmps96
 go_wp2_with (fail)
 refine (c _).mono ?_
 rintro e1 w1 ⟨rfl,hB1⟩
 obtain ⟨kc1,kf1⟩:=bcell hB1
 have hz1:=hB1.size
 simp only [World.size_alloc] at hz1
 have hs10:w.heap.size < w1.heap.size:=by omega
 go_wp2_with (fail)
 refine bodyPost_ret (v:=.agg #[.int .i64 p,.int .i64 q]) (by simp [results,Tryz.results96,go_sem,kc1,hs10]) rfl ⟨rfl,?_⟩
 have hB':=below_then ((Below.refl w.heap.size w).alloc (Nat.le_refl _) _) hB1
 go_grown
end Go.Proofs.YtdfdpghdjlgghaaGreat
namespace Go.Proofs.YtdfdpghdjlgghaaGreat
open Go.ChangeShapes Go.WideShapes Go.ChangeAt Go.RowKit
set_option linter.unusedVariables false
set_option linter.unusedSimpArgs false
set_option maxRecDepth 100000
theorem iv_ent_yes (w:World):Calls Tryz.prog 138 #[.agg #[.int .i64 (-2147483648),.int .i64 2147483648]] w fun e w'=>e = .returned (.bool true)∧Below w.heap.size w w' :=
 iv_isent _ _ true w (by simp)
theorem iv_ent_no (a b:Int) (w:World) (h:¬ Ent a b):Calls Tryz.prog 138 #[.agg #[.int .i64 a,.int .i64 b]] w fun e w'=>e = .returned (.bool false)∧Below w.heap.size w w' :=
 iv_isent _ _ false w (by
  by_cases h1:a = -2147483648
  ·have h2:¬ b = 2147483648:=fun h2=>h ⟨h1,h2⟩
   simp [h2]
  ·simp [h1])
theorem VI.bd {a b:Int} (h:VI a b):-2147483648 ≤ a∧a ≤ 2147483648∧-2147483648 ≤ b∧b ≤ 2147483648∧a ≤ b:=by
 rcases h with ⟨rfl,rfl⟩ | ⟨⟨h1,h2⟩,⟨h3,h4⟩,h5⟩
 ·decide
 ·omega
theorem mk_hull {a b c d:Int} (h:VI a b) (k:VI c d):mkLo (min a c) (max b d) = min a c∧mkHi (min a c) (max b d) = max b d:=by
 unfold mkLo mkHi Num
 rcases h with ⟨rfl,rfl⟩ | ⟨⟨h1,h2⟩,⟨h3,h4⟩,h5⟩
 all_goals rcases k with ⟨rfl,rfl⟩ | ⟨⟨k1,k2⟩,⟨k3,k4⟩,k5⟩
 all_goals (split <;> omega)

set_option maxHeartbeats 1000000 in
theorem iv_width (a b:Int) (w:World) (hb:-2147483648 ≤ a∧a ≤ 2147483648∧-2147483648 ≤ b∧b ≤ 2147483648) :
  Calls Tryz.prog 86 #[.agg #[.int .i64 a,.int .i64 b]] w fun e w'=>e = .returned (.int .i64 (b - a))∧Below w.heap.size w w':=by
 obtain ⟨ha1,ha2,hb1,hb2⟩:=hb
 go_enter Tryz.func86,Tryz.ntmps86
 go_wp2_with (fail)
 go_ret
 refine ⟨rfl,?_⟩
 go_grown

def sg (a b:Int):Int:=if 0 < a then 1 else if b < 0 then -1 else 0

set_option maxHeartbeats 1000000 in
theorem iv_sign (a b:Int) (w:World) :
  Calls Tryz.prog 184 #[.agg #[.int .i64 a,.int .i64 b]] w fun e w'=>e = .returned (.int .i64 (sg a b))∧Below w.heap.size w w':=by
 unfold sg
 by_cases h1:0 < a
 ·rw [if_pos h1]
  go_enter Tryz.func184,Tryz.ntmps184
  go_wp2_with (fail)
  go_ret
  refine ⟨rfl,?_⟩
  go_grown
 rw [if_neg h1]
 by_cases h2:b < 0
 ·rw [if_pos h2]
  go_enter Tryz.func184,Tryz.ntmps184
  go_wp2_with (fail)
  go_ret
  refine ⟨rfl,?_⟩
  go_grown
 ·rw [if_neg h2]
  go_enter Tryz.func184,Tryz.ntmps184
  go_wp2_with (fail)
  go_ret
  refine ⟨rfl,?_⟩
  go_grown

set_option maxHeartbeats 1000000 in
theorem iv_subset (a b c d:Int) (r:Bool) (w:World) (h:(decide (c ≤ a) && decide (b ≤ d)) = r) :
  Calls Tryz.prog 140 #[.agg #[.int .i64 a,.int .i64 b],.agg #[.int .i64 c,.int .i64 d]] w fun e w'=>e = .returned (.bool r)∧Below w.heap.size w w':=by
 by_cases h1:c ≤ a
 ·have h2:decide (b ≤ d) = r:=by rw [← h]; simp [h1]
  clear h
  go_enter Tryz.func140,Tryz.ntmps140
  go_wp2_with (fail)
  go_ret
  refine ⟨by first | rfl | (simp [h2]; done),?_⟩
  go_grown
 ·have h2:r = false:=by rw [← h]; simp [h1]
  subst h2
  clear h
  have h1':a < c:=by omega
  clear h1
  go_enter Tryz.func140,Tryz.ntmps140
  go_wp2_with (fail)
  go_ret
  refine ⟨rfl,?_⟩
  go_grown

set_option maxHeartbeats 1000000 in
theorem iv_valid (a b:Int) (r:Bool) (w:World) (h:decide (VI a b) = r) :
  Calls Tryz.prog 128 #[.agg #[.int .i64 a,.int .i64 b]] w fun e w'=>e = .returned (.bool r)∧Below w.heap.size w w':=by
 by_cases h0:Bd a b
 ·have hr:r = true:=by rw [← h]; unfold VI; unfold Bd at h0; simp [h0]
  subst hr
  clear h
  have h0':=Lib.hid h0
  clear h0
  go_enter Tryz.func128,Tryz.ntmps128
  go_wp2_with (fail)
  refine (iv_bounded a b true _ (by simp [h0'.out])).mono ?_
  rintro e1 w1 ⟨rfl,hB1⟩
  obtain ⟨kc1,kf1⟩:=bcell hB1
  have hz1:=hB1.size
  simp only [World.size_alloc] at hz1
  have hs1_0:w.heap.size < w1.heap.size:=by omega
  have c1_0_0:w1.cell? ⟨w.heap.size,0,none⟩ = some (.int .i64 a):=(kc1 _ _ (by simp <;> omega)).trans (by simp [go_sem])
  have c1_0_1:w1.cell? ⟨w.heap.size,1,none⟩ = some (.int .i64 b):=(kc1 _ _ (by simp <;> omega)).trans (by simp [go_sem])
  have f1_0_0:w1.frozen? ⟨w.heap.size,0,none⟩ = false:=(kf1 _ _ (by simp <;> omega)).trans (by simp [go_sem])
  have f1_0_1:w1.frozen? ⟨w.heap.size,1,none⟩ = false:=(kf1 _ _ (by simp <;> omega)).trans (by simp [go_sem])
  have hT1:Below w.heap.size w w1:=below_then ((Below.refl w.heap.size w).alloc (by go_size) _) hB1
  clear kc1 kf1 hB1 hz1
  go_wp2_with (fail)
  go_ret
  refine ⟨rfl,?_⟩
  go_grown
 ·have h0':=Lib.hid h0
  by_cases h1:Ent a b
  ·have hr:r = true:=by rw [← h]; unfold VI; simp [h1]
   subst hr
   obtain ⟨rfl,rfl⟩:=h1
   clear h h0
   go_enter Tryz.func128,Tryz.ntmps128
   go_wp2_with (fail)
   refine (iv_bounded _ _ false _ (by simp [h0'.out])).mono ?_
   rintro e1 w1 ⟨rfl,hB1⟩
   obtain ⟨kc1,kf1⟩:=bcell hB1
   have hz1:=hB1.size
   simp only [World.size_alloc] at hz1
   have hs1_0:w.heap.size < w1.heap.size:=by omega
   have c1_0_0:w1.cell? ⟨w.heap.size,0,none⟩ = some (.int .i64 (-2147483648)):=(kc1 _ _ (by simp <;> omega)).trans (by simp [go_sem])
   have c1_0_1:w1.cell? ⟨w.heap.size,1,none⟩ = some (.int .i64 2147483648):=(kc1 _ _ (by simp <;> omega)).trans (by simp [go_sem])
   have f1_0_0:w1.frozen? ⟨w.heap.size,0,none⟩ = false:=(kf1 _ _ (by simp <;> omega)).trans (by simp [go_sem])
   have f1_0_1:w1.frozen? ⟨w.heap.size,1,none⟩ = false:=(kf1 _ _ (by simp <;> omega)).trans (by simp [go_sem])
   have hT1:Below w.heap.size w w1:=below_then ((Below.refl w.heap.size w).alloc (by go_size) _) hB1
   clear kc1 kf1 hB1 hz1
   go_wp2_with (fail)
   refine (iv_ent_yes _).mono ?_
   rintro e2 w2 ⟨rfl,hB2⟩
   obtain ⟨kc2,kf2⟩:=bcell hB2
   have hz2:=hB2.size
   have hs2_0:w.heap.size < w2.heap.size:=by omega
   have c2_0_0:w2.cell? ⟨w.heap.size,0,none⟩ = some (.int .i64 (-2147483648)):=(kc2 _ _ hs1_0).trans c1_0_0
   have c2_0_1:w2.cell? ⟨w.heap.size,1,none⟩ = some (.int .i64 2147483648):=(kc2 _ _ hs1_0).trans c1_0_1
   have f2_0_0:w2.frozen? ⟨w.heap.size,0,none⟩ = false:=(kf2 _ _ hs1_0).trans f1_0_0
   have f2_0_1:w2.frozen? ⟨w.heap.size,1,none⟩ = false:=(kf2 _ _ hs1_0).trans f1_0_1
   have hT2:Below w.heap.size w w2:=below_then hT1 hB2
   clear kc2 kf2 hB2 hz2
   clear c1_0_0 f1_0_0 c1_0_1 f1_0_1 hT1 hs1_0
   go_wp2_with (fail)
   go_ret
   refine ⟨rfl,?_⟩
   go_grown
  ·have hr:r = false:=by rw [← h]; unfold VI; unfold Bd at h0; simp [h0,h1]
   subst hr
   have h1':=Lib.hid h1
   clear h h0 h1
   go_enter Tryz.func128,Tryz.ntmps128
   go_wp2_with (fail)
   refine (iv_bounded a b false _ (by simp [h0'.out])).mono ?_
   rintro e1 w1 ⟨rfl,hB1⟩
   obtain ⟨kc1,kf1⟩:=bcell hB1
   have hz1:=hB1.size
   simp only [World.size_alloc] at hz1
   have hs1_0:w.heap.size < w1.heap.size:=by omega
   have c1_0_0:w1.cell? ⟨w.heap.size,0,none⟩ = some (.int .i64 a):=(kc1 _ _ (by simp <;> omega)).trans (by simp [go_sem])
   have c1_0_1:w1.cell? ⟨w.heap.size,1,none⟩ = some (.int .i64 b):=(kc1 _ _ (by simp <;> omega)).trans (by simp [go_sem])
   have f1_0_0:w1.frozen? ⟨w.heap.size,0,none⟩ = false:=(kf1 _ _ (by simp <;> omega)).trans (by simp [go_sem])
   have f1_0_1:w1.frozen? ⟨w.heap.size,1,none⟩ = false:=(kf1 _ _ (by simp <;> omega)).trans (by simp [go_sem])
   have hT1:Below w.heap.size w w1:=below_then ((Below.refl w.heap.size w).alloc (by go_size) _) hB1
   clear kc1 kf1 hB1 hz1
   go_wp2_with (fail)
   refine (iv_ent_no a b _ h1'.out).mono ?_
   rintro e2 w2 ⟨rfl,hB2⟩
   obtain ⟨kc2,kf2⟩:=bcell hB2
   have hz2:=hB2.size
   have hs2_0:w.heap.size < w2.heap.size:=by omega
   have c2_0_0:w2.cell? ⟨w.heap.size,0,none⟩ = some (.int .i64 a):=(kc2 _ _ hs1_0).trans c1_0_0
   have c2_0_1:w2.cell? ⟨w.heap.size,1,none⟩ = some (.int .i64 b):=(kc2 _ _ hs1_0).trans c1_0_1
   have f2_0_0:w2.frozen? ⟨w.heap.size,0,none⟩ = false:=(kf2 _ _ hs1_0).trans f1_0_0
   have f2_0_1:w2.frozen? ⟨w.heap.size,1,none⟩ = false:=(kf2 _ _ hs1_0).trans f1_0_1
   have hT2:Below w.heap.size w w2:=below_then hT1 hB2
   clear kc2 kf2 hB2 hz2
   clear c1_0_0 f1_0_0 c1_0_1 f1_0_1 hT1 hs1_0
   go_wp2_with (fail)
   go_ret
   refine ⟨rfl,?_⟩
   go_grown
end Go.Proofs.YtdfdpghdjlgghaaGreat
