/-
 Iw7
-/
import Derived.Test.YtdfdpghdjlgghaaGreatKdc
import Derived.Laws.EntriesVeiled
namespace Go.Proofs.YtdfdpghdjlgghaaGreat
open Go.ChangeShapes Go.WideShapes Go.ChangeAt Go.RowKit
set_option linter.unusedVariables false
set_option linter.unusedSimpArgs false
set_option maxRecDepth 100000
theorem region_quiet {P:Program} {id:Nat} {Q:Exit→Act→World→Prop} {a:Act} {w:World} {l:List Oper} (hm:P.follows .mixedOrders = true) (hB:Region.lexB .any l.toArray = true)
  (h:wpQuiet P l.toArray (fun w'=>∃ g:Grown w,w' = g.w) (fun a'=>∀ w',(∃ g:Grown w,w' = g.w)→Q .normal a' w') l a):(Code.region id l.toArray true).wp P Q a w :=
 wp_region_quiet (C:=fun w'=>∃ g:Grown w,w' = g.w) hm hB ⟨⟨{ w with drawn:=w.drawn+1 },⟨rfl,rfl,rfl,Nat.le_refl _,fun _ _=>rfl⟩⟩,rfl⟩ (by simpa using h)
theorem qc {P:Program} {f:FuncId} {args:Array Value} {w0:World} {v:Value} {g:Grown w0} (h:Calls P f args g.w fun e w'=>e = .returned v∧Below g.w.heap.size g.w w') :
  Calls P f args g.w fun e w''=>e = .returned v∧∃ g':Grown w0,w'' = g'.w:=h.mono fun e w' ⟨h1,h2⟩=>⟨h1,grow g h2⟩
theorem qs {P:Program} {f:FuncId} {args:Array Value} {w0:World} {v:Value} {g:Grown w0} (h:Calls P f args g.w fun e w'=>e = .returned v∧g.w = w') :
  Calls P f args g.w fun e w''=>e = .returned v∧∃ g':Grown w0,w'' = g'.w:=h.mono fun e w' ⟨h1,h2⟩=>⟨h1,g,h2.symm⟩

end Go.Proofs.YtdfdpghdjlgghaaGreat
namespace Go.Proofs.YtdfdpghdjlgghaaGreat
open Go.ChangeShapes Go.WideShapes Go.ChangeAt Go.RowKit
set_option linter.unusedVariables false
set_option linter.unusedSimpArgs false
set_option maxRecDepth 100000
open Go.BigFrame
set_option maxHeartbeats 1000000 in
theorem cn_ll (a b c d:Int) (w:World) :
  Calls Tryz.prog 219 #[.agg #[.int .i64 a,.int .i64 b],.agg #[.int .i64 c,.int .i64 d]] w fun e w'=>e = .returned (.tuple #[.int .i64 a,.int .i64 c])∧Below w.heap.size w w':=by
 go_enter Tryz.func219,Tryz.ntmps219
 go_wp2_with (fail)
 have F00:∀ g:Grown ((w.alloc (.cells #[.int .i64 a,.int .i64 b] 66)).alloc (.cells #[.int .i64 c,.int .i64 d] 66)),g.w.cell? ⟨w.heap.size,0,none⟩ = some (.int .i64 a):=fun g=>(g.cell (by simp <;> omega)).trans (by simp [go_sem])
 have F10:∀ g:Grown ((w.alloc (.cells #[.int .i64 a,.int .i64 b] 66)).alloc (.cells #[.int .i64 c,.int .i64 d] 66)),g.w.cell? ⟨w.heap.size+1,0,none⟩ = some (.int .i64 c):=fun g=>(g.cell (by simp <;> omega)).trans (by simp [go_sem])
 refine region_quiet (by kernel_rfl) (by kernel_rfl) ?_
 repeat (go_big_quiet_step (fail))
 refine wpQuiet_nil ?_
 rintro _ ⟨g,rfl⟩
 go_wp2_with (fail)
 go_ret2
 refine ⟨rfl,below_then (((Below.refl w.heap.size w).alloc (by go_size) _).alloc (by go_size) _) g.h⟩

set_option maxHeartbeats 1000000 in
theorem cn_lh (a b c d:Int) (w:World) :
  Calls Tryz.prog 216 #[.agg #[.int .i64 a,.int .i64 b],.agg #[.int .i64 c,.int .i64 d]] w fun e w'=>e = .returned (.tuple #[.int .i64 a,.int .i64 d])∧Below w.heap.size w w':=by
 go_enter Tryz.func216,Tryz.ntmps216
 go_wp2_with (fail)
 have F00:∀ g:Grown ((w.alloc (.cells #[.int .i64 a,.int .i64 b] 66)).alloc (.cells #[.int .i64 c,.int .i64 d] 66)),g.w.cell? ⟨w.heap.size,0,none⟩ = some (.int .i64 a):=fun g=>(g.cell (by simp <;> omega)).trans (by simp [go_sem])
 have F11:∀ g:Grown ((w.alloc (.cells #[.int .i64 a,.int .i64 b] 66)).alloc (.cells #[.int .i64 c,.int .i64 d] 66)),g.w.cell? ⟨w.heap.size+1,1,none⟩ = some (.int .i64 d):=fun g=>(g.cell (by simp <;> omega)).trans (by simp [go_sem])
 refine region_quiet (by kernel_rfl) (by kernel_rfl) ?_
 repeat (go_big_quiet_step (fail))
 refine wpQuiet_nil ?_
 rintro _ ⟨g,rfl⟩
 go_wp2_with (fail)
 go_ret2
 refine ⟨rfl,below_then (((Below.refl w.heap.size w).alloc (by go_size) _).alloc (by go_size) _) g.h⟩

set_option maxHeartbeats 1000000 in
theorem cn_hl (a b c d:Int) (w:World) :
  Calls Tryz.prog 217 #[.agg #[.int .i64 a,.int .i64 b],.agg #[.int .i64 c,.int .i64 d]] w fun e w'=>e = .returned (.tuple #[.int .i64 b,.int .i64 c])∧Below w.heap.size w w':=by
 go_enter Tryz.func217,Tryz.ntmps217
 go_wp2_with (fail)
 have F01:∀ g:Grown ((w.alloc (.cells #[.int .i64 a,.int .i64 b] 66)).alloc (.cells #[.int .i64 c,.int .i64 d] 66)),g.w.cell? ⟨w.heap.size,1,none⟩ = some (.int .i64 b):=fun g=>(g.cell (by simp <;> omega)).trans (by simp [go_sem])
 have F10:∀ g:Grown ((w.alloc (.cells #[.int .i64 a,.int .i64 b] 66)).alloc (.cells #[.int .i64 c,.int .i64 d] 66)),g.w.cell? ⟨w.heap.size+1,0,none⟩ = some (.int .i64 c):=fun g=>(g.cell (by simp <;> omega)).trans (by simp [go_sem])
 refine region_quiet (by kernel_rfl) (by kernel_rfl) ?_
 repeat (go_big_quiet_step (fail))
 refine wpQuiet_nil ?_
 rintro _ ⟨g,rfl⟩
 go_wp2_with (fail)
 go_ret2
 refine ⟨rfl,below_then (((Below.refl w.heap.size w).alloc (by go_size) _).alloc (by go_size) _) g.h⟩

set_option maxHeartbeats 1000000 in
theorem cn_hh (a b c d:Int) (w:World) :
  Calls Tryz.prog 215 #[.agg #[.int .i64 a,.int .i64 b],.agg #[.int .i64 c,.int .i64 d]] w fun e w'=>e = .returned (.tuple #[.int .i64 b,.int .i64 d])∧Below w.heap.size w w':=by
 go_enter Tryz.func215,Tryz.ntmps215
 go_wp2_with (fail)
 have F01:∀ g:Grown ((w.alloc (.cells #[.int .i64 a,.int .i64 b] 66)).alloc (.cells #[.int .i64 c,.int .i64 d] 66)),g.w.cell? ⟨w.heap.size,1,none⟩ = some (.int .i64 b):=fun g=>(g.cell (by simp <;> omega)).trans (by simp [go_sem])
 have F11:∀ g:Grown ((w.alloc (.cells #[.int .i64 a,.int .i64 b] 66)).alloc (.cells #[.int .i64 c,.int .i64 d] 66)),g.w.cell? ⟨w.heap.size+1,1,none⟩ = some (.int .i64 d):=fun g=>(g.cell (by simp <;> omega)).trans (by simp [go_sem])
 refine region_quiet (by kernel_rfl) (by kernel_rfl) ?_
 repeat (go_big_quiet_step (fail))
 refine wpQuiet_nil ?_
 rintro _ ⟨g,rfl⟩
 go_wp2_with (fail)
 go_ret2
 refine ⟨rfl,below_then (((Below.refl w.heap.size w).alloc (by go_size) _).alloc (by go_size) _) g.h⟩

set_option maxHeartbeats 1000000 in
theorem cn_sm_0 (a b c d:Int) (w:World) (ha:-2147483648 ≤ a∧a ≤ 2147483648) (hb:-2147483648 ≤ b∧b ≤ 2147483648) (hc:-2147483648 ≤ c∧c ≤ 2147483648) (hd:-2147483648 ≤ d∧d ≤ 2147483648) (h:a * d < b * c) :
  Calls Tryz.prog 218 #[.agg #[.int .i64 a,.int .i64 b],.agg #[.int .i64 c,.int .i64 d]] w fun e w'=>e = .returned (.tuple #[.int .i64 a,.int .i64 d])∧Below w.heap.size w w':=by
 have m1:=mul_bound a d 2147483648 2147483648 ha.1 ha.2 hd.1 hd.2
 have m2:=mul_bound b c 2147483648 2147483648 hb.1 hb.2 hc.1 hc.2
 have n1:-4611686018427387904 ≤ a * d:=by omega
 have n2:a * d ≤ 4611686018427387904:=by omega
 have n3:-4611686018427387904 ≤ b * c:=by omega
 have n4:b * c ≤ 4611686018427387904:=by omega
 have c1:=fun w=>ch_fun true 216 217 w
 have c2:=fun w=>cn_lh a b c d w
 clear m1 m2 ha hb hc hd
 go_enter Tryz.func218,Tryz.ntmps218
 go_wp2_with (fail)
 have F00:∀ g:Grown ((w.alloc (.cells #[.int .i64 a,.int .i64 b] 66)).alloc (.cells #[.int .i64 c,.int .i64 d] 66)),g.w.cell? ⟨w.heap.size,0,none⟩ = some (.int .i64 a):=fun g=>(g.cell (by simp <;> omega)).trans (by simp [go_sem])
 have F01:∀ g:Grown ((w.alloc (.cells #[.int .i64 a,.int .i64 b] 66)).alloc (.cells #[.int .i64 c,.int .i64 d] 66)),g.w.cell? ⟨w.heap.size,1,none⟩ = some (.int .i64 b):=fun g=>(g.cell (by simp <;> omega)).trans (by simp [go_sem])
 have F10:∀ g:Grown ((w.alloc (.cells #[.int .i64 a,.int .i64 b] 66)).alloc (.cells #[.int .i64 c,.int .i64 d] 66)),g.w.cell? ⟨w.heap.size+1,0,none⟩ = some (.int .i64 c):=fun g=>(g.cell (by simp <;> omega)).trans (by simp [go_sem])
 have F11:∀ g:Grown ((w.alloc (.cells #[.int .i64 a,.int .i64 b] 66)).alloc (.cells #[.int .i64 c,.int .i64 d] 66)),g.w.cell? ⟨w.heap.size+1,1,none⟩ = some (.int .i64 d):=fun g=>(g.cell (by simp <;> omega)).trans (by simp [go_sem])
 refine region_quiet (by kernel_rfl) (by kernel_rfl) ?_
 repeat (go_big_quiet_step (first | exact qs (c1 _) | exact qc (c2 _)))
 refine wpQuiet_nil ?_
 rintro _ ⟨g,rfl⟩
 go_wp2_with (fail)
 go_ret2
 refine ⟨rfl,below_then (((Below.refl w.heap.size w).alloc (by go_size) _).alloc (by go_size) _) g.h⟩

set_option maxHeartbeats 1000000 in
theorem cn_sm_1 (a b c d:Int) (w:World) (ha:-2147483648 ≤ a∧a ≤ 2147483648) (hb:-2147483648 ≤ b∧b ≤ 2147483648) (hc:-2147483648 ≤ c∧c ≤ 2147483648) (hd:-2147483648 ≤ d∧d ≤ 2147483648) (h:¬ a * d < b * c) :
  Calls Tryz.prog 218 #[.agg #[.int .i64 a,.int .i64 b],.agg #[.int .i64 c,.int .i64 d]] w fun e w'=>e = .returned (.tuple #[.int .i64 b,.int .i64 c])∧Below w.heap.size w w':=by
 have m1:=mul_bound a d 2147483648 2147483648 ha.1 ha.2 hd.1 hd.2
 have m2:=mul_bound b c 2147483648 2147483648 hb.1 hb.2 hc.1 hc.2
 have n1:-4611686018427387904 ≤ a * d:=by omega
 have n2:a * d ≤ 4611686018427387904:=by omega
 have n3:-4611686018427387904 ≤ b * c:=by omega
 have n4:b * c ≤ 4611686018427387904:=by omega
 have c1:=fun w=>ch_fun false 216 217 w
 have c2:=fun w=>cn_hl a b c d w
 clear m1 m2 ha hb hc hd
 have h1:decide (a * d < b * c) = false:=decide_eq_false h
 clear h
 go_enter Tryz.func218,Tryz.ntmps218
 go_wp2_with (fail)
 have F00:∀ g:Grown ((w.alloc (.cells #[.int .i64 a,.int .i64 b] 66)).alloc (.cells #[.int .i64 c,.int .i64 d] 66)),g.w.cell? ⟨w.heap.size,0,none⟩ = some (.int .i64 a):=fun g=>(g.cell (by simp <;> omega)).trans (by simp [go_sem])
 have F01:∀ g:Grown ((w.alloc (.cells #[.int .i64 a,.int .i64 b] 66)).alloc (.cells #[.int .i64 c,.int .i64 d] 66)),g.w.cell? ⟨w.heap.size,1,none⟩ = some (.int .i64 b):=fun g=>(g.cell (by simp <;> omega)).trans (by simp [go_sem])
 have F10:∀ g:Grown ((w.alloc (.cells #[.int .i64 a,.int .i64 b] 66)).alloc (.cells #[.int .i64 c,.int .i64 d] 66)),g.w.cell? ⟨w.heap.size+1,0,none⟩ = some (.int .i64 c):=fun g=>(g.cell (by simp <;> omega)).trans (by simp [go_sem])
 have F11:∀ g:Grown ((w.alloc (.cells #[.int .i64 a,.int .i64 b] 66)).alloc (.cells #[.int .i64 c,.int .i64 d] 66)),g.w.cell? ⟨w.heap.size+1,1,none⟩ = some (.int .i64 d):=fun g=>(g.cell (by simp <;> omega)).trans (by simp [go_sem])
 refine region_quiet (by kernel_rfl) (by kernel_rfl) ?_
 repeat (go_big_quiet_step (first | exact qs (c1 _) | exact qc (c2 _)))
 refine wpQuiet_nil ?_
 rintro _ ⟨g,rfl⟩
 go_wp2_with (fail)
 go_ret2
 refine ⟨rfl,below_then (((Below.refl w.heap.size w).alloc (by go_size) _).alloc (by go_size) _) g.h⟩

set_option maxHeartbeats 1000000 in
theorem cn_lu_0 (a b c d:Int) (w:World) (ha:-2147483648 ≤ a∧a ≤ 2147483648) (hb:-2147483648 ≤ b∧b ≤ 2147483648) (hc:-2147483648 ≤ c∧c ≤ 2147483648) (hd:-2147483648 ≤ d∧d ≤ 2147483648) (h:b * d < a * c) :
  Calls Tryz.prog 220 #[.agg #[.int .i64 a,.int .i64 b],.agg #[.int .i64 c,.int .i64 d]] w fun e w'=>e = .returned (.tuple #[.int .i64 a,.int .i64 c])∧Below w.heap.size w w':=by
 have m1:=mul_bound a c 2147483648 2147483648 ha.1 ha.2 hc.1 hc.2
 have m2:=mul_bound b d 2147483648 2147483648 hb.1 hb.2 hd.1 hd.2
 have n1:-4611686018427387904 ≤ a * c:=by omega
 have n2:a * c ≤ 4611686018427387904:=by omega
 have n3:-4611686018427387904 ≤ b * d:=by omega
 have n4:b * d ≤ 4611686018427387904:=by omega
 have c1:=fun w=>ch_fun true 219 215 w
 have c2:=fun w=>cn_ll a b c d w
 clear m1 m2 ha hb hc hd
 go_enter Tryz.func220,Tryz.ntmps220
 go_wp2_with (fail)
 have F00:∀ g:Grown ((w.alloc (.cells #[.int .i64 a,.int .i64 b] 66)).alloc (.cells #[.int .i64 c,.int .i64 d] 66)),g.w.cell? ⟨w.heap.size,0,none⟩ = some (.int .i64 a):=fun g=>(g.cell (by simp <;> omega)).trans (by simp [go_sem])
 have F01:∀ g:Grown ((w.alloc (.cells #[.int .i64 a,.int .i64 b] 66)).alloc (.cells #[.int .i64 c,.int .i64 d] 66)),g.w.cell? ⟨w.heap.size,1,none⟩ = some (.int .i64 b):=fun g=>(g.cell (by simp <;> omega)).trans (by simp [go_sem])
 have F10:∀ g:Grown ((w.alloc (.cells #[.int .i64 a,.int .i64 b] 66)).alloc (.cells #[.int .i64 c,.int .i64 d] 66)),g.w.cell? ⟨w.heap.size+1,0,none⟩ = some (.int .i64 c):=fun g=>(g.cell (by simp <;> omega)).trans (by simp [go_sem])
 have F11:∀ g:Grown ((w.alloc (.cells #[.int .i64 a,.int .i64 b] 66)).alloc (.cells #[.int .i64 c,.int .i64 d] 66)),g.w.cell? ⟨w.heap.size+1,1,none⟩ = some (.int .i64 d):=fun g=>(g.cell (by simp <;> omega)).trans (by simp [go_sem])
 refine region_quiet (by kernel_rfl) (by kernel_rfl) ?_
 repeat (go_big_quiet_step (first | exact qs (c1 _) | exact qc (c2 _)))
 refine wpQuiet_nil ?_
 rintro _ ⟨g,rfl⟩
 go_wp2_with (fail)
 go_ret2
 refine ⟨rfl,below_then (((Below.refl w.heap.size w).alloc (by go_size) _).alloc (by go_size) _) g.h⟩

set_option maxHeartbeats 1000000 in
theorem cn_lu_1 (a b c d:Int) (w:World) (ha:-2147483648 ≤ a∧a ≤ 2147483648) (hb:-2147483648 ≤ b∧b ≤ 2147483648) (hc:-2147483648 ≤ c∧c ≤ 2147483648) (hd:-2147483648 ≤ d∧d ≤ 2147483648) (h:¬ b * d < a * c) :
  Calls Tryz.prog 220 #[.agg #[.int .i64 a,.int .i64 b],.agg #[.int .i64 c,.int .i64 d]] w fun e w'=>e = .returned (.tuple #[.int .i64 b,.int .i64 d])∧Below w.heap.size w w':=by
 have m1:=mul_bound a c 2147483648 2147483648 ha.1 ha.2 hc.1 hc.2
 have m2:=mul_bound b d 2147483648 2147483648 hb.1 hb.2 hd.1 hd.2
 have n1:-4611686018427387904 ≤ a * c:=by omega
 have n2:a * c ≤ 4611686018427387904:=by omega
 have n3:-4611686018427387904 ≤ b * d:=by omega
 have n4:b * d ≤ 4611686018427387904:=by omega
 have c1:=fun w=>ch_fun false 219 215 w
 have c2:=fun w=>cn_hh a b c d w
 clear m1 m2 ha hb hc hd
 have h1:decide (b * d < a * c) = false:=decide_eq_false h
 clear h
 go_enter Tryz.func220,Tryz.ntmps220
 go_wp2_with (fail)
 have F00:∀ g:Grown ((w.alloc (.cells #[.int .i64 a,.int .i64 b] 66)).alloc (.cells #[.int .i64 c,.int .i64 d] 66)),g.w.cell? ⟨w.heap.size,0,none⟩ = some (.int .i64 a):=fun g=>(g.cell (by simp <;> omega)).trans (by simp [go_sem])
 have F01:∀ g:Grown ((w.alloc (.cells #[.int .i64 a,.int .i64 b] 66)).alloc (.cells #[.int .i64 c,.int .i64 d] 66)),g.w.cell? ⟨w.heap.size,1,none⟩ = some (.int .i64 b):=fun g=>(g.cell (by simp <;> omega)).trans (by simp [go_sem])
 have F10:∀ g:Grown ((w.alloc (.cells #[.int .i64 a,.int .i64 b] 66)).alloc (.cells #[.int .i64 c,.int .i64 d] 66)),g.w.cell? ⟨w.heap.size+1,0,none⟩ = some (.int .i64 c):=fun g=>(g.cell (by simp <;> omega)).trans (by simp [go_sem])
 have F11:∀ g:Grown ((w.alloc (.cells #[.int .i64 a,.int .i64 b] 66)).alloc (.cells #[.int .i64 c,.int .i64 d] 66)),g.w.cell? ⟨w.heap.size+1,1,none⟩ = some (.int .i64 d):=fun g=>(g.cell (by simp <;> omega)).trans (by simp [go_sem])
 refine region_quiet (by kernel_rfl) (by kernel_rfl) ?_
 repeat (go_big_quiet_step (first | exact qs (c1 _) | exact qc (c2 _)))
 refine wpQuiet_nil ?_
 rintro _ ⟨g,rfl⟩
 go_wp2_with (fail)
 go_ret2
 refine ⟨rfl,below_then (((Below.refl w.heap.size w).alloc (by go_size) _).alloc (by go_size) _) g.h⟩

set_option maxHeartbeats 1000000 in
theorem corners_00 (w:World) :
  Calls Tryz.prog 183 #[.int .i64 (-1),.int .i64 (-1)] w fun e w'=>e = .returned (.tuple #[.func (.func 215) #[] #[],.func (.func 219) #[] #[]])∧Below w.heap.size w w':=by
 go_enter Tryz.func183,Tryz.ntmps183
 go_wp2_with (fail)
 generalize hW:World.alloc (World.alloc w _) _ = W
 have F0:∀ g:Grown W,g.w.cell? ⟨w.heap.size,0,none⟩ = some (.func (.func 215) #[] #[]):=fun g=>by subst hW; exact (g.cell (by simp <;> omega)).trans (by simp [go_sem])
 have F1:∀ g:Grown W,g.w.cell? ⟨w.heap.size+1,0,none⟩ = some (.func (.func 219) #[] #[]):=fun g=>by subst hW; exact (g.cell (by simp <;> omega)).trans (by simp [go_sem])
 have hT:Below w.heap.size w W:=by subst hW; exact (((Below.refl w.heap.size w).alloc (by go_size) _).alloc (by go_size) _)
 clear hW
 refine region_quiet (by kernel_rfl) (by kernel_rfl) ?_
 repeat (go_big_quiet_step (fail))
 refine wpQuiet_nil ?_
 rintro _ ⟨g,rfl⟩
 go_wp2_with (fail)
 go_ret2
 refine ⟨rfl,below_then hT g.h⟩

set_option maxHeartbeats 1000000 in
theorem corners_01 (w:World) :
  Calls Tryz.prog 183 #[.int .i64 (-1),.int .i64 0] w fun e w'=>e = .returned (.tuple #[.func (.func 216) #[] #[],.func (.func 219) #[] #[]])∧Below w.heap.size w w':=by
 go_enter Tryz.func183,Tryz.ntmps183
 go_wp2_with (fail)
 generalize hW:World.alloc (World.alloc w _) _ = W
 have F0:∀ g:Grown W,g.w.cell? ⟨w.heap.size,1,none⟩ = some (.func (.func 216) #[] #[]):=fun g=>by subst hW; exact (g.cell (by simp <;> omega)).trans (by simp [go_sem])
 have F1:∀ g:Grown W,g.w.cell? ⟨w.heap.size+1,1,none⟩ = some (.func (.func 219) #[] #[]):=fun g=>by subst hW; exact (g.cell (by simp <;> omega)).trans (by simp [go_sem])
 have hT:Below w.heap.size w W:=by subst hW; exact (((Below.refl w.heap.size w).alloc (by go_size) _).alloc (by go_size) _)
 clear hW
 refine region_quiet (by kernel_rfl) (by kernel_rfl) ?_
 repeat (go_big_quiet_step (fail))
 refine wpQuiet_nil ?_
 rintro _ ⟨g,rfl⟩
 go_wp2_with (fail)
 go_ret2
 refine ⟨rfl,below_then hT g.h⟩

set_option maxHeartbeats 1000000 in
theorem corners_02 (w:World) :
  Calls Tryz.prog 183 #[.int .i64 (-1),.int .i64 1] w fun e w'=>e = .returned (.tuple #[.func (.func 216) #[] #[],.func (.func 217) #[] #[]])∧Below w.heap.size w w':=by
 go_enter Tryz.func183,Tryz.ntmps183
 go_wp2_with (fail)
 generalize hW:World.alloc (World.alloc w _) _ = W
 have F0:∀ g:Grown W,g.w.cell? ⟨w.heap.size,2,none⟩ = some (.func (.func 216) #[] #[]):=fun g=>by subst hW; exact (g.cell (by simp <;> omega)).trans (by simp [go_sem])
 have F1:∀ g:Grown W,g.w.cell? ⟨w.heap.size+1,2,none⟩ = some (.func (.func 217) #[] #[]):=fun g=>by subst hW; exact (g.cell (by simp <;> omega)).trans (by simp [go_sem])
 have hT:Below w.heap.size w W:=by subst hW; exact (((Below.refl w.heap.size w).alloc (by go_size) _).alloc (by go_size) _)
 clear hW
 refine region_quiet (by kernel_rfl) (by kernel_rfl) ?_
 repeat (go_big_quiet_step (fail))
 refine wpQuiet_nil ?_
 rintro _ ⟨g,rfl⟩
 go_wp2_with (fail)
 go_ret2
 refine ⟨rfl,below_then hT g.h⟩

set_option maxHeartbeats 1000000 in
theorem corners_10 (w:World) :
  Calls Tryz.prog 183 #[.int .i64 0,.int .i64 (-1)] w fun e w'=>e = .returned (.tuple #[.func (.func 217) #[] #[],.func (.func 219) #[] #[]])∧Below w.heap.size w w':=by
 go_enter Tryz.func183,Tryz.ntmps183
 go_wp2_with (fail)
 generalize hW:World.alloc (World.alloc w _) _ = W
 have F0:∀ g:Grown W,g.w.cell? ⟨w.heap.size,3,none⟩ = some (.func (.func 217) #[] #[]):=fun g=>by subst hW; exact (g.cell (by simp <;> omega)).trans (by simp [go_sem])
 have F1:∀ g:Grown W,g.w.cell? ⟨w.heap.size+1,3,none⟩ = some (.func (.func 219) #[] #[]):=fun g=>by subst hW; exact (g.cell (by simp <;> omega)).trans (by simp [go_sem])
 have hT:Below w.heap.size w W:=by subst hW; exact (((Below.refl w.heap.size w).alloc (by go_size) _).alloc (by go_size) _)
 clear hW
 refine region_quiet (by kernel_rfl) (by kernel_rfl) ?_
 repeat (go_big_quiet_step (fail))
 refine wpQuiet_nil ?_
 rintro _ ⟨g,rfl⟩
 go_wp2_with (fail)
 go_ret2
 refine ⟨rfl,below_then hT g.h⟩

set_option maxHeartbeats 1000000 in
theorem corners_11 (w:World) :
  Calls Tryz.prog 183 #[.int .i64 0,.int .i64 0] w fun e w'=>e = .returned (.tuple #[.func (.func 218) #[] #[],.func (.func 220) #[] #[]])∧Below w.heap.size w w':=by
 go_enter Tryz.func183,Tryz.ntmps183
 go_wp2_with (fail)
 generalize hW:World.alloc (World.alloc w _) _ = W
 have F0:∀ g:Grown W,g.w.cell? ⟨w.heap.size,4,none⟩ = some (.func (.func 218) #[] #[]):=fun g=>by subst hW; exact (g.cell (by simp <;> omega)).trans (by simp [go_sem])
 have F1:∀ g:Grown W,g.w.cell? ⟨w.heap.size+1,4,none⟩ = some (.func (.func 220) #[] #[]):=fun g=>by subst hW; exact (g.cell (by simp <;> omega)).trans (by simp [go_sem])
 have hT:Below w.heap.size w W:=by subst hW; exact (((Below.refl w.heap.size w).alloc (by go_size) _).alloc (by go_size) _)
 clear hW
 refine region_quiet (by kernel_rfl) (by kernel_rfl) ?_
 repeat (go_big_quiet_step (fail))
 refine wpQuiet_nil ?_
 rintro _ ⟨g,rfl⟩
 go_wp2_with (fail)
 go_ret2
 refine ⟨rfl,below_then hT g.h⟩

set_option maxHeartbeats 1000000 in
theorem corners_12 (w:World) :
  Calls Tryz.prog 183 #[.int .i64 0,.int .i64 1] w fun e w'=>e = .returned (.tuple #[.func (.func 216) #[] #[],.func (.func 215) #[] #[]])∧Below w.heap.size w w':=by
 go_enter Tryz.func183,Tryz.ntmps183
 go_wp2_with (fail)
 generalize hW:World.alloc (World.alloc w _) _ = W
 have F0:∀ g:Grown W,g.w.cell? ⟨w.heap.size,5,none⟩ = some (.func (.func 216) #[] #[]):=fun g=>by subst hW; exact (g.cell (by simp <;> omega)).trans (by simp [go_sem])
 have F1:∀ g:Grown W,g.w.cell? ⟨w.heap.size+1,5,none⟩ = some (.func (.func 215) #[] #[]):=fun g=>by subst hW; exact (g.cell (by simp <;> omega)).trans (by simp [go_sem])
 have hT:Below w.heap.size w W:=by subst hW; exact (((Below.refl w.heap.size w).alloc (by go_size) _).alloc (by go_size) _)
 clear hW
 refine region_quiet (by kernel_rfl) (by kernel_rfl) ?_
 repeat (go_big_quiet_step (fail))
 refine wpQuiet_nil ?_
 rintro _ ⟨g,rfl⟩
 go_wp2_with (fail)
 go_ret2
 refine ⟨rfl,below_then hT g.h⟩

set_option maxHeartbeats 1000000 in
theorem corners_20 (w:World) :
  Calls Tryz.prog 183 #[.int .i64 1,.int .i64 (-1)] w fun e w'=>e = .returned (.tuple #[.func (.func 217) #[] #[],.func (.func 216) #[] #[]])∧Below w.heap.size w w':=by
 go_enter Tryz.func183,Tryz.ntmps183
 go_wp2_with (fail)
 generalize hW:World.alloc (World.alloc w _) _ = W
 have F0:∀ g:Grown W,g.w.cell? ⟨w.heap.size,6,none⟩ = some (.func (.func 217) #[] #[]):=fun g=>by subst hW; exact (g.cell (by simp <;> omega)).trans (by simp [go_sem])
 have F1:∀ g:Grown W,g.w.cell? ⟨w.heap.size+1,6,none⟩ = some (.func (.func 216) #[] #[]):=fun g=>by subst hW; exact (g.cell (by simp <;> omega)).trans (by simp [go_sem])
 have hT:Below w.heap.size w W:=by subst hW; exact (((Below.refl w.heap.size w).alloc (by go_size) _).alloc (by go_size) _)
 clear hW
 refine region_quiet (by kernel_rfl) (by kernel_rfl) ?_
 repeat (go_big_quiet_step (fail))
 refine wpQuiet_nil ?_
 rintro _ ⟨g,rfl⟩
 go_wp2_with (fail)
 go_ret2
 refine ⟨rfl,below_then hT g.h⟩

set_option maxHeartbeats 1000000 in
theorem corners_21 (w:World) :
  Calls Tryz.prog 183 #[.int .i64 1,.int .i64 0] w fun e w'=>e = .returned (.tuple #[.func (.func 217) #[] #[],.func (.func 215) #[] #[]])∧Below w.heap.size w w':=by
 go_enter Tryz.func183,Tryz.ntmps183
 go_wp2_with (fail)
 generalize hW:World.alloc (World.alloc w _) _ = W
 have F0:∀ g:Grown W,g.w.cell? ⟨w.heap.size,7,none⟩ = some (.func (.func 217) #[] #[]):=fun g=>by subst hW; exact (g.cell (by simp <;> omega)).trans (by simp [go_sem])
 have F1:∀ g:Grown W,g.w.cell? ⟨w.heap.size+1,7,none⟩ = some (.func (.func 215) #[] #[]):=fun g=>by subst hW; exact (g.cell (by simp <;> omega)).trans (by simp [go_sem])
 have hT:Below w.heap.size w W:=by subst hW; exact (((Below.refl w.heap.size w).alloc (by go_size) _).alloc (by go_size) _)
 clear hW
 refine region_quiet (by kernel_rfl) (by kernel_rfl) ?_
 repeat (go_big_quiet_step (fail))
 refine wpQuiet_nil ?_
 rintro _ ⟨g,rfl⟩
 go_wp2_with (fail)
 go_ret2
 refine ⟨rfl,below_then hT g.h⟩

set_option maxHeartbeats 1000000 in
theorem corners_22 (w:World) :
  Calls Tryz.prog 183 #[.int .i64 1,.int .i64 1] w fun e w'=>e = .returned (.tuple #[.func (.func 219) #[] #[],.func (.func 215) #[] #[]])∧Below w.heap.size w w':=by
 go_enter Tryz.func183,Tryz.ntmps183
 go_wp2_with (fail)
 generalize hW:World.alloc (World.alloc w _) _ = W
 have F0:∀ g:Grown W,g.w.cell? ⟨w.heap.size,8,none⟩ = some (.func (.func 219) #[] #[]):=fun g=>by subst hW; exact (g.cell (by simp <;> omega)).trans (by simp [go_sem])
 have F1:∀ g:Grown W,g.w.cell? ⟨w.heap.size+1,8,none⟩ = some (.func (.func 215) #[] #[]):=fun g=>by subst hW; exact (g.cell (by simp <;> omega)).trans (by simp [go_sem])
 have hT:Below w.heap.size w W:=by subst hW; exact (((Below.refl w.heap.size w).alloc (by go_size) _).alloc (by go_size) _)
 clear hW
 refine region_quiet (by kernel_rfl) (by kernel_rfl) ?_
 repeat (go_big_quiet_step (fail))
 refine wpQuiet_nil ?_
 rintro _ ⟨g,rfl⟩
 go_wp2_with (fail)
 go_ret2
 refine ⟨rfl,below_then hT g.h⟩
end Go.Proofs.YtdfdpghdjlgghaaGreat
