/-
 Cl
-/
import Derived.Test.YtekjflfkbgklhaaGreatKco
import Derived.Test.YtekjflfkbgklhaaGreatKcp
import Derived.Test.YtekjflfkbgklhaaGreatKczn
import Derived.Test.YtekjflfkbgklhaaGreatKczo
import Derived.Test.YtekjflfkbgklhaaGreatKczp
namespace Go.Proofs.YtekjflfkbgklhaaGreat
open Go.ChangeShapes Go.WideShapes Go.ChangeAt Go.RowKit
set_option linter.unusedVariables false
set_option linter.unusedSimpArgs false
set_option maxRecDepth 100000
attribute [local irreducible] Calls
def one13:Ex:=.e0 ⟨1,0,65536,65536⟩
def L13:List Is:=[(⟨1,0,0,65536,65536⟩:Is)]
def stp13:Int→Option Sg:=fun h=>stpI L13 [0] [(0,0)] 0 h 2
theorem comp13:compT [one13] [] = (L13,[0]):=by decide
theorem tv13:tvB 1 L13 [0] = true:=by decide
theorem adv13a:advI stp13 1024 20000 32768 = some (16384,[(0,16384)],[(0,16384)],[(16384,16384)]):=by kernel_rfl
theorem adv13b:advI stp13 1024 20000 5000 = some (5000,[(0,5000)],[(0,5000)],[(5000,5000)]):=by kernel_rfl
theorem adv13c:advI stp13 1024 1000 32768 = none:=by kernel_rfl
theorem av13:AV [((0:Int),(0:Int))]:=fun p hp=>by
 obtain rfl:=List.mem_singleton.1 hp
 exact vi_0
theorem ev13:EV 1 one13:=by first | decide | (unfold one13 EV; decide) | simp [one13,EV,vnB]
theorem vx_one {W:World} {v:Value} {a b:Int} (h:Vx W v [(a,b)]):∃ g o q,v = .slice (some ⟨g,o,none⟩) 1 q∧g < W.heap.size∧W.cell? ⟨g,o,none⟩ = some (.int .i64 a)∧W.cell? ⟨g,o+1,none⟩ = some (.int .i64 b):=by
 obtain ⟨p,q,rfl⟩:=h.cut
 obtain ⟨g,o,rfl,hg,rd⟩:=vx_rd (i:=0) h rfl
 obtain ⟨x0,x1⟩:=rd ⟨W,Below.refl _ _⟩
 exact ⟨g,o,q,rfl,hg,by simpa using x0,by simpa using x1⟩
theorem vx_cells {W:World} {g o q:Nat} {a b:Int} (h:Vx W (.slice (some ⟨g,o,none⟩) 1 q) [(a,b)]):W.cell? ⟨g,o,none⟩ = some (.int .i64 a)∧W.cell? ⟨g,o+1,none⟩ = some (.int .i64 b):=by
 obtain ⟨g',o',e,hg,rd⟩:=vx_rd (i:=0) h rfl
 cases e
 obtain ⟨x0,x1⟩:=rd ⟨W,Below.refl _ _⟩
 exact ⟨by simpa using x0,by simpa using x1⟩
section
variable {P:Program}
theorem gTl {ops:Array Oper} {ds:List Tmp} {a0:Act} {w0:World} {Φ:Tmp→Value→World→Prop} {o:Oper} {j:Nat} (ts:List Tmp) (want:Bool) (u:Tmp) (hg:o.guard = some (j,want)) (hj:((ops[j]?).bind (·.dst)) = some u) (ht:o.looksAt #[] = ts)
  (h:∀ (a:Act) (g:Grown w0),seenAll Φ ds a0 a g.w ts→uponP P g.w (meets Φ o.dst) ((execOp a.eval o).run P g.w)) (hin:inL u ds = true:=by rfl) (hu:∀ v w,Φ u v w→v = .bool want:=by exact fun v w h=>h):Obl P ops ds a0 w0 Φ o:=ob_gtrue ts j want u hg hj ht hin hu h
theorem tvl {w:World} {K:Value→World→Prop} {r:Result Next} {v:Value} (hr:r = .ok (.value v) w) (h:K v w):uponP P w K r:=tupon_value hr (Below.refl _ _) h
end
set_option maxHeartbeats 64000000 in
theorem sanity13 (w:World):Calls Tryz.prog 11 #[] w fun e w'=>e = .returned (.bool true)∧Below w.heap.size w w':=by
 have HW:=Lib.hid (Below.refl w.heap.size w)
 go_enter Tryz.func11,Tryz.ntmps11
 obtain ⟨W1,eW1⟩:∃ W,w.alloc (.cells #[.int .i64 2,.int .i64 32768,.int .i64 1024,.int .i64 65536,.int .i64 20000] 23) = W:=⟨_,rfl⟩
 have hW1:Below w.heap.size w W1:=by rw [← eW1]; exact (Below.refl _ _).alloc (Nat.le_refl _) _
 have nW1:Blk W1 w.heap.size (.cells #[.int .i64 2,.int .i64 32768,.int .i64 1024,.int .i64 65536,.int .i64 20000] 23):=by rw [← eW1]; exact World.alloc_heap_new w _
 have HW:=Lib.hid (below_then HW.out hW1)
 have HC:=Lib.hid nW1
 clear hW1 nW1
 obtain ⟨W2,eW2⟩:∃ W,W1.alloc (.cells #[.string ⟨#[120]⟩] 9) = W:=⟨_,rfl⟩
 have hW2:Below W1.heap.size W1 W2:=by rw [← eW2]; exact (Below.refl _ _).alloc (Nat.le_refl _) _
 have nW2:Blk W2 W1.heap.size (.cells #[.string ⟨#[120]⟩] 9):=by rw [← eW2]; exact World.alloc_heap_new W1 _
 have HC:=Lib.hid (HC.out.grow hW2)
 have HW:=Lib.hid (below_then HW.out hW2)
 have HN:=Lib.hid nW2
 clear hW2 nW2
 go_wp2_with (fail)
 refine (pt_one _).mono ?_
 rintro e w3 ⟨rfl,hB⟩
 clear eW1 eW2
 have HC:=Lib.hid (HC.out.grow hB)
 have HN:=Lib.hid (HN.out.grow hB)
 have HW:=Lib.hid (below_then HW.out hB)
 clear hB
 go_wp2_with (fail)
 refine (const7_ok 65536 65536 _).mono ?_
 rintro e w4 ⟨v4,rfl,ho4,hB⟩
 have HC:=Lib.hid (HC.out.grow hB)
 have HN:=Lib.hid (HN.out.grow hB)
 have HW:=Lib.hid (below_then HW.out hB)
 clear hB
 obtain ⟨p4,q4,rfl⟩:=own_slice ho4
 have HNX:=Lib.hid (show NxO w4 (.slice p4 1 q4) [⟨1,0,65536,65536⟩] from nxo_own ho4 (by unfold maxLen; decide))
 clear ho4
 obtain ⟨W5,eW5⟩:∃ W,w4.alloc (.cells #[.slice p4 1 q4] 67) = W:=⟨_,rfl⟩
 have hW5:Below w4.heap.size w4 W5:=by rw [← eW5]; exact (Below.refl _ _).alloc (Nat.le_refl _) _
 have nW5:Blk W5 w4.heap.size (.cells #[.slice p4 1 q4] 67):=by rw [← eW5]; exact World.alloc_heap_new w4 _
 have HC:=Lib.hid (HC.out.grow hW5)
 have HN:=Lib.hid (HN.out.grow hW5)
 have HNX:=Lib.hid (HNX.out.grow hW5)
 have HW:=Lib.hid (below_then HW.out hW5)
 have HF:=Lib.hid nW5
 clear hW5 nW5
 have hf5:Lx NxO W5 (.slice (some ⟨w4.heap.size,0,none⟩) 1 1) ([one13].map pre):=lx_blk HF.out rfl (by decide) (fun k x hx=>by
  match k,hx with
  | 0,hx=>exact ⟨_,rfl,by cases hx; exact HNX.out⟩
  | k+1,hx=>simp at hx)
 have KC:=Lib.hid (fun vn=>rcomp_ok (N:=1) vn (.slice (some ⟨w4.heap.size,0,none⟩) 1 1) [one13] W5 hf5 (fun t ht=>by obtain rfl:=List.mem_singleton.1 ht; exact ev13) (by decide) (by rw [comp13]; decide) (fun t ht=>by obtain rfl:=List.mem_singleton.1 ht; decide))
 rw [comp13] at KC
 clear hf5
 go_wp2_with (fail)
 refine (KC.out _).mono ?_
 rintro e w6 ⟨u6,r6,rfl,hu6,hr6,hB⟩
 clear eW5
 clear HF HNX HN KC
 have HC:=Lib.hid (HC.out.grow hB)
 have HW:=Lib.hid (below_then HW.out hB)
 clear hB
 have HU:=Lib.hid hu6
 have HR:=Lib.hid hr6
 obtain ⟨pu,cu,eu⟩:=hu6.cut
 obtain ⟨pr,cr',er⟩:=hr6.cut
 have eu:u6 = .slice pu 1 cu:=eu
 have er:r6 = .slice pr 1 cr':=er
 subst eu er
 clear hu6 hr6
 obtain ⟨W7,eW7⟩:∃ W,w6.alloc (.cells #[.int .i64 1,.slice pu 1 cu,.slice pr 1 cr'] 39) = W:=⟨_,rfl⟩
 have hW7:Below w6.heap.size w6 W7:=by rw [← eW7]; exact (Below.refl _ _).alloc (Nat.le_refl _) _
 have nW7:Blk W7 w6.heap.size (.cells #[.int .i64 1,.slice pu 1 cu,.slice pr 1 cr'] 39):=by rw [← eW7]; exact World.alloc_heap_new w6 _
 have HC:=Lib.hid (HC.out.grow hW7)
 have HU:=Lib.hid (HU.out.grow hW7)
 have HR:=Lib.hid (HR.out.grow hW7)
 have HW:=Lib.hid (below_then HW.out hW7)
 have HT:=Lib.hid nW7
 clear hW7 nW7
 obtain ⟨W8,eW8⟩:∃ W,W7.alloc (.cells #[.int .i64 0,.int .i64 0] 59) = W:=⟨_,rfl⟩
 have hW8:Below W7.heap.size W7 W8:=by rw [← eW8]; exact (Below.refl _ _).alloc (Nat.le_refl _) _
 have nW8:Blk W8 W7.heap.size (.cells #[.int .i64 0,.int .i64 0] 59):=by rw [← eW8]; exact World.alloc_heap_new W7 _
 have HC:=Lib.hid (HC.out.grow hW8)
 have HU:=Lib.hid (HU.out.grow hW8)
 have HR:=Lib.hid (HR.out.grow hW8)
 have HT:=Lib.hid (HT.out.grow hW8)
 have HW:=Lib.hid (below_then HW.out hW8)
 have HXB:=Lib.hid nW8
 clear hW8 nW8
 have HX:=Lib.hid (show Vx W8 (.slice (some ⟨W7.heap.size,0,none⟩) 1 1) [(0,0)] from rx_blk encB_len HXB.out rfl rfl (by unfold maxLen; decide))
 have c0:=heapN_cellj HC.out (k:=0) rfl
 have c1:=heapN_cellj HC.out (k:=1) rfl
 have c2:=heapN_cellj HC.out (k:=2) rfl
 have c3:=heapN_cellj HC.out (k:=3) rfl
 have c4:=heapN_cellj HC.out (k:=4) rfl
 have t0:=heapN_cellj HT.out (k:=0) rfl
 have t1:=heapN_cellj HT.out (k:=1) rfl
 have t2:=heapN_cellj HT.out (k:=2) rfl
 have KA:=Lib.hid (Advance_ok 1 0 65536 32768 32768 32768 1024 65536 20000 2 (.slice pu 1 cu) (.slice pr 1 cr') (.slice (some ⟨W7.heap.size,0,none⟩) 1 1) L13 [0] [(0,0)] W8 HU.out HR.out HX.out tv13 rfl av13 (by decide) (by decide) (by decide) (by decide) (by decide) (by decide) (by decide) (by decide) (by decide) (by decide) (by decide) (by decide) ⟨by decide,by decide⟩ _ adv13a)
 go_wp2_with (fail)
 refine (KA.out).mono ?_
 rintro e w9 ⟨s9,nx9,er9,rfl,ha9,hB⟩
 clear eW7 eW8
 clear c0 c1 c2 c3 c4 t0 t1 t2 KA
 have HC:=Lib.hid (HC.out.grow hB)
 have HU:=Lib.hid (HU.out.grow hB)
 have HR:=Lib.hid (HR.out.grow hB)
 have HT:=Lib.hid (HT.out.grow hB)
 have HXB:=Lib.hid (HXB.out.grow hB)
 have HX:=Lib.hid (HX.out.grow hB)
 have HW:=Lib.hid (below_then HW.out hB)
 clear hB
 obtain ⟨⟨p1a,q1a,p2a,q2a,p3a,q3a,p4a,q4a,hs9,k1,k2,k3,k4⟩,hn9,he9⟩:=ha9
 obtain ⟨g3a,o3a,r3a,e3,_⟩:=vx_one k3.1
 obtain ⟨g4a,o4a,r4a,e4,_⟩:=vx_one k4.1
 cases e3
 cases e4
 have ks9:s9 = .agg #[.int .i64 0,.int .i64 16384,.slice p1a 1 q1a,.slice p2a 1 q2a,.slice (some ⟨g3a,o3a,none⟩) 1 q3a,.slice (some ⟨g4a,o4a,none⟩) 1 q4a]:=hs9
 have kn9:nx9 = 32768:=hn9
 have ke9:er9 = 0:=he9
 clear hs9 hn9 he9
 subst ks9 kn9 ke9
 have HVa:=Lib.hid k3
 have HEa:=Lib.hid k4
 clear k1 k2 k3 k4
 obtain ⟨W10,eW10⟩:∃ W,w9.alloc (.cells #[.int .i64 0,.int .i64 16384,.slice p1a 1 q1a,.slice p2a 1 q2a,.slice (some ⟨g3a,o3a,none⟩) 1 q3a,.slice (some ⟨g4a,o4a,none⟩) 1 q4a] 43) = W:=⟨_,rfl⟩
 have hW10:Below w9.heap.size w9 W10:=by rw [← eW10]; exact (Below.refl _ _).alloc (Nat.le_refl _) _
 have nW10:Blk W10 w9.heap.size (.cells #[.int .i64 0,.int .i64 16384,.slice p1a 1 q1a,.slice p2a 1 q2a,.slice (some ⟨g3a,o3a,none⟩) 1 q3a,.slice (some ⟨g4a,o4a,none⟩) 1 q4a] 43):=by rw [← eW10]; exact World.alloc_heap_new w9 _
 have HC:=Lib.hid (HC.out.grow hW10)
 have HU:=Lib.hid (HU.out.grow hW10)
 have HR:=Lib.hid (HR.out.grow hW10)
 have HT:=Lib.hid (HT.out.grow hW10)
 have HXB:=Lib.hid (HXB.out.grow hW10)
 have HX:=Lib.hid (HX.out.grow hW10)
 have HVa:=Lib.hid (HVa.out.grow hW10)
 have HEa:=Lib.hid (HEa.out.grow hW10)
 have HW:=Lib.hid (below_then HW.out hW10)
 have HSa:=Lib.hid nW10
 clear hW10 nW10
 have c0:=heapN_cellj HC.out (k:=0) rfl
 have c1:=heapN_cellj HC.out (k:=1) rfl
 have c2:=heapN_cellj HC.out (k:=2) rfl
 have c3:=heapN_cellj HC.out (k:=3) rfl
 have c4:=heapN_cellj HC.out (k:=4) rfl
 have t0:=heapN_cellj HT.out (k:=0) rfl
 have t1:=heapN_cellj HT.out (k:=1) rfl
 have t2:=heapN_cellj HT.out (k:=2) rfl
 have KA:=Lib.hid (Advance_ok 1 0 5000 32768 5000 32768 1024 65536 20000 2 (.slice pu 1 cu) (.slice pr 1 cr') (.slice (some ⟨W7.heap.size,0,none⟩) 1 1) L13 [0] [(0,0)] W10 HU.out HR.out HX.out tv13 rfl av13 (by decide) (by decide) (by decide) (by decide) (by decide) (by decide) (by decide) (by decide) (by decide) (by decide) (by decide) (by decide) ⟨by decide,by decide⟩ _ adv13b)
 go_wp2_with (fail)
 refine (KA.out).mono ?_
 rintro e w11 ⟨s9,nx9,er9,rfl,ha9,hB⟩
 clear eW10
 clear c0 c1 c2 c3 c4 t0 t1 t2 KA
 have HC:=Lib.hid (HC.out.grow hB)
 have HU:=Lib.hid (HU.out.grow hB)
 have HR:=Lib.hid (HR.out.grow hB)
 have HT:=Lib.hid (HT.out.grow hB)
 have HXB:=Lib.hid (HXB.out.grow hB)
 have HX:=Lib.hid (HX.out.grow hB)
 have HVa:=Lib.hid (HVa.out.grow hB)
 have HEa:=Lib.hid (HEa.out.grow hB)
 have HSa:=Lib.hid (HSa.out.grow hB)
 have HW:=Lib.hid (below_then HW.out hB)
 clear hB
 obtain ⟨⟨p1b,q1b,p2b,q2b,p3b,q3b,p4b,q4b,hs9,k1,k2,k3,k4⟩,hn9,he9⟩:=ha9
 obtain ⟨g3b,o3b,r3b,e3,_⟩:=vx_one k3.1
 obtain ⟨g4b,o4b,r4b,e4,_⟩:=vx_one k4.1
 cases e3
 cases e4
 have ks9:s9 = .agg #[.int .i64 0,.int .i64 5000,.slice p1b 1 q1b,.slice p2b 1 q2b,.slice (some ⟨g3b,o3b,none⟩) 1 q3b,.slice (some ⟨g4b,o4b,none⟩) 1 q4b]:=hs9
 have kn9:nx9 = 65536:=hn9
 have ke9:er9 = 0:=he9
 clear hs9 hn9 he9
 subst ks9 kn9 ke9
 have HVb:=Lib.hid k3
 have HEb:=Lib.hid k4
 clear k1 k2 k3 k4
 obtain ⟨W12,eW12⟩:∃ W,w11.alloc (.cells #[.int .i64 0,.int .i64 5000,.slice p1b 1 q1b,.slice p2b 1 q2b,.slice (some ⟨g3b,o3b,none⟩) 1 q3b,.slice (some ⟨g4b,o4b,none⟩) 1 q4b] 43) = W:=⟨_,rfl⟩
 have hW12:Below w11.heap.size w11 W12:=by rw [← eW12]; exact (Below.refl _ _).alloc (Nat.le_refl _) _
 have nW12:Blk W12 w11.heap.size (.cells #[.int .i64 0,.int .i64 5000,.slice p1b 1 q1b,.slice p2b 1 q2b,.slice (some ⟨g3b,o3b,none⟩) 1 q3b,.slice (some ⟨g4b,o4b,none⟩) 1 q4b] 43):=by rw [← eW12]; exact World.alloc_heap_new w11 _
 have HC:=Lib.hid (HC.out.grow hW12)
 have HU:=Lib.hid (HU.out.grow hW12)
 have HR:=Lib.hid (HR.out.grow hW12)
 have HT:=Lib.hid (HT.out.grow hW12)
 have HXB:=Lib.hid (HXB.out.grow hW12)
 have HX:=Lib.hid (HX.out.grow hW12)
 have HVa:=Lib.hid (HVa.out.grow hW12)
 have HEa:=Lib.hid (HEa.out.grow hW12)
 have HSa:=Lib.hid (HSa.out.grow hW12)
 have HVb:=Lib.hid (HVb.out.grow hW12)
 have HEb:=Lib.hid (HEb.out.grow hW12)
 have HW:=Lib.hid (below_then HW.out hW12)
 have HSb:=Lib.hid nW12
 clear hW12 nW12
 have d0:=heapN_cellj HC.out (k:=0) rfl
 have d1:=heapN_cellj HC.out (k:=1) rfl
 have d2:=heapN_cellj HC.out (k:=2) rfl
 have d3:=heapN_cellj HC.out (k:=3) rfl
 have d4:=heapN_cellj HC.out (k:=4) rfl
 obtain ⟨W13,eW13⟩:∃ W,W12.alloc (.cells #[.int .i64 2,.int .i64 32768,.int .i64 1024,.int .i64 65536,.int .i64 1000] 23) = W:=⟨_,rfl⟩
 have hW13:Below W12.heap.size W12 W13:=by rw [← eW13]; exact (Below.refl _ _).alloc (Nat.le_refl _) _
 have nW13:Blk W13 W12.heap.size (.cells #[.int .i64 2,.int .i64 32768,.int .i64 1024,.int .i64 65536,.int .i64 1000] 23):=by rw [← eW13]; exact World.alloc_heap_new W12 _
 have HC:=Lib.hid (HC.out.grow hW13)
 have HU:=Lib.hid (HU.out.grow hW13)
 have HR:=Lib.hid (HR.out.grow hW13)
 have HT:=Lib.hid (HT.out.grow hW13)
 have HXB:=Lib.hid (HXB.out.grow hW13)
 have HX:=Lib.hid (HX.out.grow hW13)
 have HVa:=Lib.hid (HVa.out.grow hW13)
 have HEa:=Lib.hid (HEa.out.grow hW13)
 have HSa:=Lib.hid (HSa.out.grow hW13)
 have HVb:=Lib.hid (HVb.out.grow hW13)
 have HEb:=Lib.hid (HEb.out.grow hW13)
 have HSb:=Lib.hid (HSb.out.grow hW13)
 have HW:=Lib.hid (below_then HW.out hW13)
 have HN2:=Lib.hid nW13
 clear hW13 nW13
 have c0:=heapN_cellj HN2.out (k:=0) rfl
 have c1:=heapN_cellj HN2.out (k:=1) rfl
 have c2:=heapN_cellj HN2.out (k:=2) rfl
 have c3:=heapN_cellj HN2.out (k:=3) rfl
 have c4:=heapN_cellj HN2.out (k:=4) rfl
 have t0:=heapN_cellj HT.out (k:=0) rfl
 have t1:=heapN_cellj HT.out (k:=1) rfl
 have t2:=heapN_cellj HT.out (k:=2) rfl
 have KA:=Lib.hid (Advance_ok 1 0 65536 32768 32768 32768 1024 65536 1000 2 (.slice pu 1 cu) (.slice pr 1 cr') (.slice (some ⟨W7.heap.size,0,none⟩) 1 1) L13 [0] [(0,0)] W13 HU.out HR.out HX.out tv13 rfl av13 (by decide) (by decide) (by decide) (by decide) (by decide) (by decide) (by decide) (by decide) (by decide) (by decide) (by decide) (by decide) ⟨by decide,by decide⟩ _ adv13c)
 go_wp2_with (fail)
 refine (KA.out).mono ?_
 rintro e w14 ⟨s9,nx9,er9,rfl,ha9,hB⟩
 clear eW12 eW13
 clear c0 c1 c2 c3 c4 t0 t1 t2 KA
 have HC:=Lib.hid (HC.out.grow hB)
 have HU:=Lib.hid (HU.out.grow hB)
 have HR:=Lib.hid (HR.out.grow hB)
 have HT:=Lib.hid (HT.out.grow hB)
 have HXB:=Lib.hid (HXB.out.grow hB)
 have HX:=Lib.hid (HX.out.grow hB)
 have HVa:=Lib.hid (HVa.out.grow hB)
 have HEa:=Lib.hid (HEa.out.grow hB)
 have HSa:=Lib.hid (HSa.out.grow hB)
 have HVb:=Lib.hid (HVb.out.grow hB)
 have HEb:=Lib.hid (HEb.out.grow hB)
 have HSb:=Lib.hid (HSb.out.grow hB)
 have HN2:=Lib.hid (HN2.out.grow hB)
 have HW:=Lib.hid (below_then HW.out hB)
 clear hB
 clear d0 d1 d2 d3 d4
 obtain ⟨hs9,hn9,he9⟩:=ha9
 subst hs9 hn9 he9
 have h15:Below w14.heap.size w14 (w14.alloc (.cells #[.int .i64 0,.int .i64 0,.slice none 0 0,.slice none 0 0,.slice none 0 0,.slice none 0 0] 43)):=(Below.refl _ _).alloc (Nat.le_refl _) _
 have n15:Blk (w14.alloc (.cells #[.int .i64 0,.int .i64 0,.slice none 0 0,.slice none 0 0,.slice none 0 0,.slice none 0 0] 43)) w14.heap.size (.cells #[.int .i64 0,.int .i64 0,.slice none 0 0,.slice none 0 0,.slice none 0 0,.slice none 0 0] 43):=World.alloc_heap_new w14 _
 have HC:=Lib.hid (HC.out.grow h15)
 have HU:=Lib.hid (HU.out.grow h15)
 have HR:=Lib.hid (HR.out.grow h15)
 have HT:=Lib.hid (HT.out.grow h15)
 have HXB:=Lib.hid (HXB.out.grow h15)
 have HX:=Lib.hid (HX.out.grow h15)
 have HVa:=Lib.hid (HVa.out.grow h15)
 have HEa:=Lib.hid (HEa.out.grow h15)
 have HSa:=Lib.hid (HSa.out.grow h15)
 have HVb:=Lib.hid (HVb.out.grow h15)
 have HEb:=Lib.hid (HEb.out.grow h15)
 have HSb:=Lib.hid (HSb.out.grow h15)
 have HN2:=Lib.hid (HN2.out.grow h15)
 have HW:=Lib.hid (below_then HW.out h15)
 have HS3:=Lib.hid n15
 clear h15 n15
 have c0:=heapN_cellj HC.out (k:=0) rfl
 have c1:=heapN_cellj HC.out (k:=1) rfl
 have c2:=heapN_cellj HC.out (k:=2) rfl
 have c3:=heapN_cellj HC.out (k:=3) rfl
 have c4:=heapN_cellj HC.out (k:=4) rfl
 have KS:=Lib.hid (fun h w a b=>shrink_ok 2 32768 1024 65536 20000 h w a b (by decide) (by decide))
 have KS1:=Lib.hid (fun w=>KS.out 4096 w (by decide) (by decide))
 go_wp2_with (fail)
 refine (KS1.out _).mono ?_
 rintro e w16 ⟨rfl,hB⟩
 clear c0 c1 c2 c3 c4
 have HC:=Lib.hid (HC.out.grow hB)
 have HU:=Lib.hid (HU.out.grow hB)
 have HR:=Lib.hid (HR.out.grow hB)
 have HT:=Lib.hid (HT.out.grow hB)
 have HXB:=Lib.hid (HXB.out.grow hB)
 have HX:=Lib.hid (HX.out.grow hB)
 have HVa:=Lib.hid (HVa.out.grow hB)
 have HEa:=Lib.hid (HEa.out.grow hB)
 have HSa:=Lib.hid (HSa.out.grow hB)
 have HVb:=Lib.hid (HVb.out.grow hB)
 have HEb:=Lib.hid (HEb.out.grow hB)
 have HSb:=Lib.hid (HSb.out.grow hB)
 have HN2:=Lib.hid (HN2.out.grow hB)
 have HS3:=Lib.hid (HS3.out.grow hB)
 have HW:=Lib.hid (below_then HW.out hB)
 clear hB
 have c0:=heapN_cellj HC.out (k:=0) rfl
 have c1:=heapN_cellj HC.out (k:=1) rfl
 have c2:=heapN_cellj HC.out (k:=2) rfl
 have c3:=heapN_cellj HC.out (k:=3) rfl
 have c4:=heapN_cellj HC.out (k:=4) rfl
 have KS2:=Lib.hid (KS.out 2047 w16 (by decide) (by decide))
 go_wp2_with (fail)
 refine (KS2.out).mono ?_
 rintro e w17 ⟨rfl,hB⟩
 clear c0 c1 c2 c3 c4 KS KS1 KS2
 have HC:=Lib.hid (HC.out.grow hB)
 have HU:=Lib.hid (HU.out.grow hB)
 have HR:=Lib.hid (HR.out.grow hB)
 have HT:=Lib.hid (HT.out.grow hB)
 have HXB:=Lib.hid (HXB.out.grow hB)
 have HX:=Lib.hid (HX.out.grow hB)
 have HVa:=Lib.hid (HVa.out.grow hB)
 have HEa:=Lib.hid (HEa.out.grow hB)
 have HSa:=Lib.hid (HSa.out.grow hB)
 have HVb:=Lib.hid (HVb.out.grow hB)
 have HEb:=Lib.hid (HEb.out.grow hB)
 have HSb:=Lib.hid (HSb.out.grow hB)
 have HN2:=Lib.hid (HN2.out.grow hB)
 have HS3:=Lib.hid (HS3.out.grow hB)
 have HW:=Lib.hid (below_then HW.out hB)
 clear hB
 have V1:∀ w,Calls Tryz.prog 12 #[.agg #[.int .i64 2,.int .i64 32768,.int .i64 1024,.int .i64 65536,.int .i64 20000]] w fun e w'=>e = .returned (.bool true)∧Below w.heap.size w w':=fun w=>cvalid_ok 2 32768 1024 65536 20000 w
 have V2:∀ w,Calls Tryz.prog 12 #[.agg #[.int .i64 0,.int .i64 0,.int .i64 0,.int .i64 0,.int .i64 0]] w fun e w'=>e = .returned (.bool false)∧Below w.heap.size w w':=fun w=>cvalid_ok 0 0 0 0 0 w
 have V3:∀ w,Calls Tryz.prog 12 #[.agg #[.int .i64 8,.int .i64 2,.int .i64 1,.int .i64 3,.int .i64 1]] w fun e w'=>e = .returned (.bool false)∧Below w.heap.size w w':=fun w=>cvalid_ok 8 2 1 3 1 w
 have KV1:=Lib.hid V1
 have KV2:=Lib.hid V2
 have KV3:=Lib.hid V3
 have KPT:=Lib.hid (fun w=>point_at 16384 w (by decide) (by decide))
 have KG1:=Lib.hid (fun w=>(show Calls Tryz.prog 19 #[.agg #[.int .i64 2,.int .i64 32768,.int .i64 1024,.int .i64 65536,.int .i64 20000],.int .i64 40000] w fun e w'=>e = .returned (.int .i64 65536)∧Below w.heap.size w w' from grow_ok 2 32768 1024 65536 20000 40000 w (by decide) (by decide) (by decide)))
 have KG2:=Lib.hid (fun w=>(show Calls Tryz.prog 19 #[.agg #[.int .i64 2,.int .i64 32768,.int .i64 1024,.int .i64 65536,.int .i64 20000],.int .i64 3] w fun e w'=>e = .returned (.int .i64 6)∧Below w.heap.size w w' from grow_ok 2 32768 1024 65536 20000 3 w (by decide) (by decide) (by decide)))
 have KI1:=Lib.hid (fun w=>(show Calls Tryz.prog 21 #[.agg #[.int .i64 2,.int .i64 32768,.int .i64 1024,.int .i64 65536,.int .i64 20000],.int .i64 100] w fun e w'=>e = .returned (.int .i64 100)∧Below w.heap.size w w' from initial_ok 2 32768 1024 65536 20000 100 w (by decide) (by decide) (by decide)))
 have KI2:=Lib.hid (fun w=>(show Calls Tryz.prog 21 #[.agg #[.int .i64 2,.int .i64 32768,.int .i64 1024,.int .i64 65536,.int .i64 20000],.int .i64 40000] w fun e w'=>e = .returned (.int .i64 32768)∧Below w.heap.size w w' from initial_ok 2 32768 1024 65536 20000 40000 w (by decide) (by decide) (by decide)))
 have hav:∀ a b:Int,(a = 0 ∨ a = 16384)→b = 16384→AV [(a,b)]:=fun a b ha hb p hp=>by
  obtain rfl:=List.mem_singleton.1 hp
  exact .inr ⟨⟨by dsimp only; omega,by dsimp only; omega⟩,⟨by dsimp only; omega,by dsimp only; omega⟩,by dsimp only; omega⟩
 have KA1:=Lib.hid (fun w a c=>(show Calls Tryz.prog 23 #[.agg #[.int .i64 2,.int .i64 32768,.int .i64 1024,.int .i64 65536,.int .i64 20000],.agg #[.int .i64 0,.int .i64 16384,.slice p1a 1 q1a,.slice p2a 1 q2a,.slice (some ⟨g3a,o3a,none⟩) 1 q3a,.slice (some ⟨g4a,o4a,none⟩) 1 q4a]] w fun e w'=>e = .returned (.bool true)∧Below w.heap.size w w' from accept_ok 2 32768 1024 65536 20000 0 16384 (.slice p1a 1 q1a) (.slice p2a 1 q2a) (.slice (some ⟨g3a,o3a,none⟩) 1 q3a) (.slice (some ⟨g4a,o4a,none⟩) 1 q4a) [(0,16384)] [(16384,16384)] w a c (hav _ _ (.inl rfl) rfl) (hav _ _ (.inr rfl) rfl)))
 have KA2:=Lib.hid (fun w a c=>(show Calls Tryz.prog 23 #[.agg #[.int .i64 2,.int .i64 32768,.int .i64 1024,.int .i64 65536,.int .i64 1000],.agg #[.int .i64 0,.int .i64 16384,.slice p1a 1 q1a,.slice p2a 1 q2a,.slice (some ⟨g3a,o3a,none⟩) 1 q3a,.slice (some ⟨g4a,o4a,none⟩) 1 q4a]] w fun e w'=>e = .returned (.bool false)∧Below w.heap.size w w' from accept_ok 2 32768 1024 65536 1000 0 16384 (.slice p1a 1 q1a) (.slice p2a 1 q2a) (.slice (some ⟨g3a,o3a,none⟩) 1 q3a) (.slice (some ⟨g4a,o4a,none⟩) 1 q4a) [(0,16384)] [(16384,16384)] w a c (hav _ _ (.inl rfl) rfl) (hav _ _ (.inr rfl) rfl)))
 clear V1 V2 V3 hav
 have c0:=heapN_cellj HC.out (k:=0) rfl
 have c1:=heapN_cellj HC.out (k:=1) rfl
 have c2:=heapN_cellj HC.out (k:=2) rfl
 have c3:=heapN_cellj HC.out (k:=3) rfl
 have c4:=heapN_cellj HC.out (k:=4) rfl
 have n0:=heapN_cellj HN2.out (k:=0) rfl
 have n1:=heapN_cellj HN2.out (k:=1) rfl
 have n2:=heapN_cellj HN2.out (k:=2) rfl
 have n3:=heapN_cellj HN2.out (k:=3) rfl
 have n4:=heapN_cellj HN2.out (k:=4) rfl
 have s0:=heapN_cellj HSa.out (k:=0) rfl
 have s1:=heapN_cellj HSa.out (k:=1) rfl
 have s2:=heapN_cellj HSa.out (k:=2) rfl
 have s3:=heapN_cellj HSa.out (k:=3) rfl
 have s4:=heapN_cellj HSa.out (k:=4) rfl
 have s5:=heapN_cellj HSa.out (k:=5) rfl
 have u0:=heapN_cellj HSb.out (k:=0) rfl
 have u1:=heapN_cellj HSb.out (k:=1) rfl
 have u2:=heapN_cellj HSb.out (k:=2) rfl
 have u3:=heapN_cellj HSb.out (k:=3) rfl
 have u4:=heapN_cellj HSb.out (k:=4) rfl
 have u5:=heapN_cellj HSb.out (k:=5) rfl
 obtain ⟨z0,z1⟩:=vx_cells HEa.out.1
 go_wp2_with (fail)
 clear z0 z1 c0 c1 c2 c3 c4 n0 n1 n2 n3 n4 s0 s1 s2 s3 s4 s5 u0 u1 u2 u3 u4 u5
 have c0:=fun g:Grown w17=>heapN_cellj (HC.out.grow g.h) (k:=0) rfl
 have c1:=fun g:Grown w17=>heapN_cellj (HC.out.grow g.h) (k:=1) rfl
 have c2:=fun g:Grown w17=>heapN_cellj (HC.out.grow g.h) (k:=2) rfl
 have c3:=fun g:Grown w17=>heapN_cellj (HC.out.grow g.h) (k:=3) rfl
 have c4:=fun g:Grown w17=>heapN_cellj (HC.out.grow g.h) (k:=4) rfl
 have s0:=fun g:Grown w17=>heapN_cellj (HSa.out.grow g.h) (k:=0) rfl
 have s1:=fun g:Grown w17=>heapN_cellj (HSa.out.grow g.h) (k:=1) rfl
 have s2:=fun g:Grown w17=>heapN_cellj (HSa.out.grow g.h) (k:=2) rfl
 have s3:=fun g:Grown w17=>heapN_cellj (HSa.out.grow g.h) (k:=3) rfl
 have s4:=fun g:Grown w17=>heapN_cellj (HSa.out.grow g.h) (k:=4) rfl
 have s5:=fun g:Grown w17=>heapN_cellj (HSa.out.grow g.h) (k:=5) rfl
 have u0:=fun g:Grown w17=>heapN_cellj (HSb.out.grow g.h) (k:=0) rfl
 have u1:=fun g:Grown w17=>heapN_cellj (HSb.out.grow g.h) (k:=1) rfl
 have u2:=fun g:Grown w17=>heapN_cellj (HSb.out.grow g.h) (k:=2) rfl
 have u3:=fun g:Grown w17=>heapN_cellj (HSb.out.grow g.h) (k:=3) rfl
 have u4:=fun g:Grown w17=>heapN_cellj (HSb.out.grow g.h) (k:=4) rfl
 have u5:=fun g:Grown w17=>heapN_cellj (HSb.out.grow g.h) (k:=5) rfl
 have n0:=fun g:Grown w17=>heapN_cellj (HN2.out.grow g.h) (k:=0) rfl
 have n1:=fun g:Grown w17=>heapN_cellj (HN2.out.grow g.h) (k:=1) rfl
 have n2:=fun g:Grown w17=>heapN_cellj (HN2.out.grow g.h) (k:=2) rfl
 have n3:=fun g:Grown w17=>heapN_cellj (HN2.out.grow g.h) (k:=3) rfl
 have n4:=fun g:Grown w17=>heapN_cellj (HN2.out.grow g.h) (k:=4) rfl
 have z0:=fun g:Grown w17=>(vx_cells (HEa.out.grow g.h).1).1
 have z1:=fun g:Grown w17=>(vx_cells (HEa.out.grow g.h).1).2
 refine region_pred (lk [(76,fun z_ _=>z_ = .agg #[.int .i64 2,.int .i64 32768,.int .i64 1024,.int .i64 65536,.int .i64 20000]),(77,fun z_ _=>z_ = .bool true),(78,fun z_ _=>z_ = .bool true),(79,fun z_ _=>z_ = .agg #[.int .i64 0,.int .i64 0,.int .i64 0,.int .i64 0,.int .i64 0]),(80,fun z_ _=>z_ = .bool false),(81,fun z_ _=>z_ = .bool true),(82,fun z_ _=>z_ = .bool true),(83,fun z_ _=>z_ = .bool true),(84,fun z_ _=>z_ = .agg #[.int .i64 8,.int .i64 2,.int .i64 1,.int .i64 3,.int .i64 1]),(85,fun z_ _=>z_ = .bool false),(86,fun z_ _=>z_ = .bool true),(87,fun z_ _=>z_ = .bool true),(88,fun z_ _=>z_ = .bool true),(89,fun z_ _=>z_ = .int .i64 0),(90,fun z_ _=>z_ = .bool true),(91,fun z_ _=>z_ = .bool true),(92,fun z_ _=>z_ = .bool true),(93,fun z_ _=>z_ = .pointer (some ⟨w9.heap.size,1,none⟩)),(94,fun z_ _=>z_ = .int .i64 16384),(95,fun z_ _=>z_ = .bool true),(96,fun z_ _=>z_ = .bool true),(97,fun z_ _=>z_ = .bool true),(98,fun z_ _=>z_ = .int .i64 32768),(99,fun z_ _=>z_ = .bool true),(100,fun z_ _=>z_ = .bool true),(101,fun z_ _=>z_ = .bool true),(102,fun z_ _=>z_ = .pointer (some ⟨w9.heap.size,5,none⟩)),(103,fun z_ _=>z_ = .slice (some ⟨g4a,o4a,none⟩) 1 q4a),(104,fun z_ _=>z_ = .pointer (some ⟨g4a,o4a,none⟩)),(105,fun z_ _=>z_ = .agg #[.int .i64 16384,.int .i64 16384]),(106,fun z_ _=>z_ = .agg #[.int .i64 16384,.int .i64 16384]),(107,fun z_ _=>z_ = .bool true),(108,fun z_ _=>z_ = .bool true),(109,fun z_ _=>z_ = .bool true),(110,fun z_ _=>z_ = .int .i64 0),(111,fun z_ _=>z_ = .bool true),(112,fun z_ _=>z_ = .bool true),(113,fun z_ _=>z_ = .bool true),(114,fun z_ _=>z_ = .pointer (some ⟨w11.heap.size,1,none⟩)),(115,fun z_ _=>z_ = .int .i64 5000),(116,fun z_ _=>z_ = .bool true),(117,fun z_ _=>z_ = .bool true),(118,fun z_ _=>z_ = .bool true),(119,fun z_ _=>z_ = .int .i64 65536),(120,fun z_ _=>z_ = .bool true),(121,fun z_ _=>z_ = .bool true),(122,fun z_ _=>z_ = .bool true),(123,fun z_ _=>z_ = .int .i64 130),(124,fun z_ _=>z_ = .bool true),(125,fun z_ _=>z_ = .bool true),(126,fun z_ _=>z_ = .bool true),(127,fun z_ _=>z_ = .int .i64 0),(128,fun z_ _=>z_ = .bool true),(129,fun z_ _=>z_ = .bool true),(130,fun z_ _=>z_ = .bool true),(131,fun z_ _=>z_ = .int .i64 2048),(132,fun z_ _=>z_ = .bool true),(133,fun z_ _=>z_ = .bool true),(134,fun z_ _=>z_ = .bool true),(135,fun z_ _=>z_ = .int .i64 0),(136,fun z_ _=>z_ = .bool true),(137,fun z_ _=>z_ = .bool true),(138,fun z_ _=>z_ = .bool true),(139,fun z_ _=>z_ = .int .i64 0),(140,fun z_ _=>z_ = .bool true),(141,fun z_ _=>z_ = .bool true),(142,fun z_ _=>z_ = .bool true),(143,fun z_ _=>z_ = .int .i64 130),(144,fun z_ _=>z_ = .bool true),(145,fun z_ _=>z_ = .bool true),(146,fun z_ _=>z_ = .bool true),(147,fun z_ _=>z_ = .agg #[.int .i64 2,.int .i64 32768,.int .i64 1024,.int .i64 65536,.int .i64 20000]),(148,fun z_ _=>z_ = .int .i64 65536),(149,fun z_ _=>z_ = .bool true),(150,fun z_ _=>z_ = .bool true),(151,fun z_ _=>z_ = .bool true),(152,fun z_ _=>z_ = .agg #[.int .i64 2,.int .i64 32768,.int .i64 1024,.int .i64 65536,.int .i64 20000]),(153,fun z_ _=>z_ = .int .i64 6),(154,fun z_ _=>z_ = .bool true),(155,fun z_ _=>z_ = .bool true),(156,fun z_ _=>z_ = .bool true),(157,fun z_ _=>z_ = .agg #[.int .i64 2,.int .i64 32768,.int .i64 1024,.int .i64 65536,.int .i64 20000]),(158,fun z_ _=>z_ = .int .i64 100),(159,fun z_ _=>z_ = .bool true),(160,fun z_ _=>z_ = .bool true),(161,fun z_ _=>z_ = .bool true),(162,fun z_ _=>z_ = .agg #[.int .i64 2,.int .i64 32768,.int .i64 1024,.int .i64 65536,.int .i64 20000]),(163,fun z_ _=>z_ = .int .i64 32768),(164,fun z_ _=>z_ = .bool true),(165,fun z_ _=>z_ = .bool true),(166,fun z_ _=>z_ = .bool true),(167,fun z_ _=>z_ = .agg #[.int .i64 2,.int .i64 32768,.int .i64 1024,.int .i64 65536,.int .i64 20000]),(168,fun z_ _=>z_ = .agg #[.int .i64 0,.int .i64 16384,.slice p1a 1 q1a,.slice p2a 1 q2a,.slice (some ⟨g3a,o3a,none⟩) 1 q3a,.slice (some ⟨g4a,o4a,none⟩) 1 q4a]),(169,fun z_ _=>z_ = .bool true),(170,fun z_ _=>z_ = .bool true),(171,fun z_ _=>z_ = .bool true),(172,fun z_ _=>z_ = .agg #[.int .i64 2,.int .i64 32768,.int .i64 1024,.int .i64 65536,.int .i64 1000]),(173,fun z_ _=>z_ = .agg #[.int .i64 0,.int .i64 16384,.slice p1a 1 q1a,.slice p2a 1 q2a,.slice (some ⟨g3a,o3a,none⟩) 1 q3a,.slice (some ⟨g4a,o4a,none⟩) 1 q4a]),(174,fun z_ _=>z_ = .bool false),(175,fun z_ _=>z_ = .bool true),(176,fun z_ _=>z_ = .bool true),(0,fun z_ _=>z_ = .bool true)]) (by kernel_rfl) (by kernel_rfl) (lk_steady _ ⟨steady_eq _,steady_eq _,steady_eq _,steady_eq _,steady_eq _,steady_eq _,steady_eq _,steady_eq _,steady_eq _,steady_eq _,steady_eq _,steady_eq _,steady_eq _,steady_eq _,steady_eq _,steady_eq _,steady_eq _,steady_eq _,steady_eq _,steady_eq _,steady_eq _,steady_eq _,steady_eq _,steady_eq _,steady_eq _,steady_eq _,steady_eq _,steady_eq _,steady_eq _,steady_eq _,steady_eq _,steady_eq _,steady_eq _,steady_eq _,steady_eq _,steady_eq _,steady_eq _,steady_eq _,steady_eq _,steady_eq _,steady_eq _,steady_eq _,steady_eq _,steady_eq _,steady_eq _,steady_eq _,steady_eq _,steady_eq _,steady_eq _,steady_eq _,steady_eq _,steady_eq _,steady_eq _,steady_eq _,steady_eq _,steady_eq _,steady_eq _,steady_eq _,steady_eq _,steady_eq _,steady_eq _,steady_eq _,steady_eq _,steady_eq _,steady_eq _,steady_eq _,steady_eq _,steady_eq _,steady_eq _,steady_eq _,steady_eq _,steady_eq _,steady_eq _,steady_eq _,steady_eq _,steady_eq _,steady_eq _,steady_eq _,steady_eq _,steady_eq _,steady_eq _,steady_eq _,steady_eq _,steady_eq _,steady_eq _,steady_eq _,steady_eq _,steady_eq _,steady_eq _,steady_eq _,steady_eq _,steady_eq _,steady_eq _,steady_eq _,steady_eq _,steady_eq _,steady_eq _,steady_eq _,steady_eq _,steady_eq _,steady_eq _,steady_eq _,trivial⟩) ?_ ?_
 ·refine ⟨?_,?_,?_,?_,?_,?_,?_,?_,?_,?_,?_,?_,?_,?_,?_,?_,?_,?_,?_,?_,?_,?_,?_,?_,?_,?_,?_,?_,?_,?_,?_,?_,?_,?_,?_,?_,?_,?_,?_,?_,?_,?_,?_,?_,?_,?_,?_,?_,?_,?_,?_,?_,?_,?_,?_,?_,?_,?_,?_,?_,?_,?_,?_,?_,?_,?_,?_,?_,?_,?_,?_,?_,?_,?_,?_,?_,?_,?_,?_,?_,?_,?_,?_,?_,?_,?_,?_,?_,?_,?_,?_,?_,?_,?_,?_,?_,?_,?_,?_,?_,?_,?_,trivial⟩
  ·exact ob_plain [1] rfl rfl fun _ g h=>by have y0:=seen_out rfl rfl h.1; exact tvl (by simp [go_sem,y0,c0 g,c1 g,c2 g,c3 g,c4 g]) rfl
  ·exact ob_plain [76] rfl rfl fun _ g h=>by obtain ⟨_,y0,rfl⟩:=seen_in rfl h.1; exact tupon_enter (f:=12) (args:=#[.agg #[.int .i64 2,.int .i64 32768,.int .i64 1024,.int .i64 65536,.int .i64 20000]]) (by simp [go_sem,y0]) rfl ((KV1.out g.w).mono fun e w' ⟨he,hB⟩=>⟨_,he,hB,rfl⟩)
  ·exact ob_plain [77] rfl rfl fun _ g h=>by obtain ⟨_,y0,rfl⟩:=seen_in rfl h.1; exact tvl (by simp [go_sem,y0]) rfl
  ·exact gTl [] true 78 rfl rfl rfl fun _ g h=>by exact tvl (by simp [go_sem]) rfl
  ·exact gTl [79] true 78 rfl rfl rfl fun _ g h=>by obtain ⟨_,y0,rfl⟩:=seen_in rfl h.1; exact tupon_enter (f:=12) (args:=#[.agg #[.int .i64 0,.int .i64 0,.int .i64 0,.int .i64 0,.int .i64 0]]) (by simp [go_sem,y0]) rfl ((KV2.out g.w).mono fun e w' ⟨he,hB⟩=>⟨_,he,hB,rfl⟩)
  ·exact gTl [80] true 78 rfl rfl rfl fun _ g h=>by obtain ⟨_,y0,rfl⟩:=seen_in rfl h.1; exact tvl (by simp [go_sem,y0]) rfl
  ·exact ob_plain [78,81] rfl rfl fun _ g h=>by obtain ⟨_,y0,rfl⟩:=seen_in rfl h.1; obtain ⟨_,y1,rfl⟩:=seen_in rfl h.2.1; exact tvl (by simp [go_sem,y0,y1]) rfl
  ·exact ob_plain [82] rfl rfl fun _ g h=>by obtain ⟨_,y0,rfl⟩:=seen_in rfl h.1; exact tvl (by simp [go_sem,y0]) rfl
  ·exact gTl [] true 83 rfl rfl rfl fun _ g h=>by exact tvl (by simp [go_sem]) rfl
  ·exact gTl [84] true 83 rfl rfl rfl fun _ g h=>by obtain ⟨_,y0,rfl⟩:=seen_in rfl h.1; exact tupon_enter (f:=12) (args:=#[.agg #[.int .i64 8,.int .i64 2,.int .i64 1,.int .i64 3,.int .i64 1]]) (by simp [go_sem,y0]) rfl ((KV3.out g.w).mono fun e w' ⟨he,hB⟩=>⟨_,he,hB,rfl⟩)
  ·exact gTl [85] true 83 rfl rfl rfl fun _ g h=>by obtain ⟨_,y0,rfl⟩:=seen_in rfl h.1; exact tvl (by simp [go_sem,y0]) rfl
  ·exact ob_plain [83,86] rfl rfl fun _ g h=>by obtain ⟨_,y0,rfl⟩:=seen_in rfl h.1; obtain ⟨_,y1,rfl⟩:=seen_in rfl h.2.1; exact tvl (by simp [go_sem,y0,y1]) rfl
  ·exact ob_plain [87] rfl rfl fun _ g h=>by obtain ⟨_,y0,rfl⟩:=seen_in rfl h.1; exact tvl (by simp [go_sem,y0]) rfl
  ·exact gTl [6] true 88 rfl rfl rfl fun _ g h=>by have y0:=seen_out rfl rfl h.1; exact tvl (by simp [go_sem,y0]) rfl
  ·exact gTl [89] true 88 rfl rfl rfl fun _ g h=>by obtain ⟨_,y0,rfl⟩:=seen_in rfl h.1; exact tvl (by simp [go_sem,y0]) rfl
  ·exact ob_plain [88,90] rfl rfl fun _ g h=>by obtain ⟨_,y0,rfl⟩:=seen_in rfl h.1; obtain ⟨_,y1,rfl⟩:=seen_in rfl h.2.1; exact tvl (by simp [go_sem,y0,y1]) rfl
  ·exact ob_plain [91] rfl rfl fun _ g h=>by obtain ⟨_,y0,rfl⟩:=seen_in rfl h.1; exact tvl (by simp [go_sem,y0]) rfl
  ·exact gTl [4] true 92 rfl rfl rfl fun _ g h=>by have y0:=seen_out rfl rfl h.1; exact tvl (by simp [go_sem,y0]) rfl
  ·exact gTl [93] true 92 rfl rfl rfl fun _ g h=>by obtain ⟨_,y0,rfl⟩:=seen_in rfl h.1; exact tvl (by simp [go_sem,y0,s1 g]) rfl
  ·exact gTl [94] true 92 rfl rfl rfl fun _ g h=>by obtain ⟨_,y0,rfl⟩:=seen_in rfl h.1; exact tvl (by simp [go_sem,y0]) rfl
  ·exact ob_plain [92,95] rfl rfl fun _ g h=>by obtain ⟨_,y0,rfl⟩:=seen_in rfl h.1; obtain ⟨_,y1,rfl⟩:=seen_in rfl h.2.1; exact tvl (by simp [go_sem,y0,y1]) rfl
  ·exact ob_plain [96] rfl rfl fun _ g h=>by obtain ⟨_,y0,rfl⟩:=seen_in rfl h.1; exact tvl (by simp [go_sem,y0]) rfl
  ·exact gTl [5] true 97 rfl rfl rfl fun _ g h=>by have y0:=seen_out rfl rfl h.1; exact tvl (by simp [go_sem,y0]) rfl
  ·exact gTl [98] true 97 rfl rfl rfl fun _ g h=>by obtain ⟨_,y0,rfl⟩:=seen_in rfl h.1; exact tvl (by simp [go_sem,y0]) rfl
  ·exact ob_plain [97,99] rfl rfl fun _ g h=>by obtain ⟨_,y0,rfl⟩:=seen_in rfl h.1; obtain ⟨_,y1,rfl⟩:=seen_in rfl h.2.1; exact tvl (by simp [go_sem,y0,y1]) rfl
  ·exact ob_plain [100] rfl rfl fun _ g h=>by obtain ⟨_,y0,rfl⟩:=seen_in rfl h.1; exact tvl (by simp [go_sem,y0]) rfl
  ·exact gTl [4] true 101 rfl rfl rfl fun _ g h=>by have y0:=seen_out rfl rfl h.1; exact tvl (by simp [go_sem,y0]) rfl
  ·exact gTl [102] true 101 rfl rfl rfl fun _ g h=>by obtain ⟨_,y0,rfl⟩:=seen_in rfl h.1; exact tvl (by simp [go_sem,y0,s5 g]) rfl
  ·exact gTl [103] true 101 rfl rfl rfl fun _ g h=>by obtain ⟨_,y0,rfl⟩:=seen_in rfl h.1; exact tvl (by simp [go_sem,y0]) rfl
  ·exact gTl [104] true 101 rfl rfl rfl fun _ g h=>by obtain ⟨_,y0,rfl⟩:=seen_in rfl h.1; exact tvl (by simp [go_sem,y0,z0 g,z1 g]) rfl
  ·exact gTl [] true 101 rfl rfl rfl fun _ g h=>by exact tupon_enter (f:=36) (args:=#[.int .i64 16384]) (by simp [go_sem]) rfl ((KPT.out g.w).mono fun e w' ⟨he,hB⟩=>⟨_,he,hB,rfl⟩)
  ·exact gTl [105,106] true 101 rfl rfl rfl fun _ g h=>by obtain ⟨_,y0,rfl⟩:=seen_in rfl h.1; obtain ⟨_,y1,rfl⟩:=seen_in rfl h.2.1; exact tvl (by simp [go_sem,y0,y1]) rfl
  ·exact ob_plain [101,107] rfl rfl fun _ g h=>by obtain ⟨_,y0,rfl⟩:=seen_in rfl h.1; obtain ⟨_,y1,rfl⟩:=seen_in rfl h.2.1; exact tvl (by simp [go_sem,y0,y1]) rfl
  ·exact ob_plain [108] rfl rfl fun _ g h=>by obtain ⟨_,y0,rfl⟩:=seen_in rfl h.1; exact tvl (by simp [go_sem,y0]) rfl
  ·exact gTl [9] true 109 rfl rfl rfl fun _ g h=>by have y0:=seen_out rfl rfl h.1; exact tvl (by simp [go_sem,y0]) rfl
  ·exact gTl [110] true 109 rfl rfl rfl fun _ g h=>by obtain ⟨_,y0,rfl⟩:=seen_in rfl h.1; exact tvl (by simp [go_sem,y0]) rfl
  ·exact ob_plain [109,111] rfl rfl fun _ g h=>by obtain ⟨_,y0,rfl⟩:=seen_in rfl h.1; obtain ⟨_,y1,rfl⟩:=seen_in rfl h.2.1; exact tvl (by simp [go_sem,y0,y1]) rfl
  ·exact ob_plain [112] rfl rfl fun _ g h=>by obtain ⟨_,y0,rfl⟩:=seen_in rfl h.1; exact tvl (by simp [go_sem,y0]) rfl
  ·exact gTl [7] true 113 rfl rfl rfl fun _ g h=>by have y0:=seen_out rfl rfl h.1; exact tvl (by simp [go_sem,y0]) rfl
  ·exact gTl [114] true 113 rfl rfl rfl fun _ g h=>by obtain ⟨_,y0,rfl⟩:=seen_in rfl h.1; exact tvl (by simp [go_sem,y0,u1 g]) rfl
  ·exact gTl [115] true 113 rfl rfl rfl fun _ g h=>by obtain ⟨_,y0,rfl⟩:=seen_in rfl h.1; exact tvl (by simp [go_sem,y0]) rfl
  ·exact ob_plain [113,116] rfl rfl fun _ g h=>by obtain ⟨_,y0,rfl⟩:=seen_in rfl h.1; obtain ⟨_,y1,rfl⟩:=seen_in rfl h.2.1; exact tvl (by simp [go_sem,y0,y1]) rfl
  ·exact ob_plain [117] rfl rfl fun _ g h=>by obtain ⟨_,y0,rfl⟩:=seen_in rfl h.1; exact tvl (by simp [go_sem,y0]) rfl
  ·exact gTl [8] true 118 rfl rfl rfl fun _ g h=>by have y0:=seen_out rfl rfl h.1; exact tvl (by simp [go_sem,y0]) rfl
  ·exact gTl [119] true 118 rfl rfl rfl fun _ g h=>by obtain ⟨_,y0,rfl⟩:=seen_in rfl h.1; exact tvl (by simp [go_sem,y0]) rfl
  ·exact ob_plain [118,120] rfl rfl fun _ g h=>by obtain ⟨_,y0,rfl⟩:=seen_in rfl h.1; obtain ⟨_,y1,rfl⟩:=seen_in rfl h.2.1; exact tvl (by simp [go_sem,y0,y1]) rfl
  ·exact ob_plain [121] rfl rfl fun _ g h=>by obtain ⟨_,y0,rfl⟩:=seen_in rfl h.1; exact tvl (by simp [go_sem,y0]) rfl
  ·exact gTl [13] true 122 rfl rfl rfl fun _ g h=>by have y0:=seen_out rfl rfl h.1; exact tvl (by simp [go_sem,y0]) rfl
  ·exact gTl [123] true 122 rfl rfl rfl fun _ g h=>by obtain ⟨_,y0,rfl⟩:=seen_in rfl h.1; exact tvl (by simp [go_sem,y0]) rfl
  ·exact ob_plain [122,124] rfl rfl fun _ g h=>by obtain ⟨_,y0,rfl⟩:=seen_in rfl h.1; obtain ⟨_,y1,rfl⟩:=seen_in rfl h.2.1; exact tvl (by simp [go_sem,y0,y1]) rfl
  ·exact ob_plain [125] rfl rfl fun _ g h=>by obtain ⟨_,y0,rfl⟩:=seen_in rfl h.1; exact tvl (by simp [go_sem,y0]) rfl
  ·exact gTl [12] true 126 rfl rfl rfl fun _ g h=>by have y0:=seen_out rfl rfl h.1; exact tvl (by simp [go_sem,y0]) rfl
  ·exact gTl [127] true 126 rfl rfl rfl fun _ g h=>by obtain ⟨_,y0,rfl⟩:=seen_in rfl h.1; exact tvl (by simp [go_sem,y0]) rfl
  ·exact ob_plain [126,128] rfl rfl fun _ g h=>by obtain ⟨_,y0,rfl⟩:=seen_in rfl h.1; obtain ⟨_,y1,rfl⟩:=seen_in rfl h.2.1; exact tvl (by simp [go_sem,y0,y1]) rfl
  ·exact ob_plain [129] rfl rfl fun _ g h=>by obtain ⟨_,y0,rfl⟩:=seen_in rfl h.1; exact tvl (by simp [go_sem,y0]) rfl
  ·exact gTl [14] true 130 rfl rfl rfl fun _ g h=>by have y0:=seen_out rfl rfl h.1; exact tvl (by simp [go_sem,y0]) rfl
  ·exact gTl [131] true 130 rfl rfl rfl fun _ g h=>by obtain ⟨_,y0,rfl⟩:=seen_in rfl h.1; exact tvl (by simp [go_sem,y0]) rfl
  ·exact ob_plain [130,132] rfl rfl fun _ g h=>by obtain ⟨_,y0,rfl⟩:=seen_in rfl h.1; obtain ⟨_,y1,rfl⟩:=seen_in rfl h.2.1; exact tvl (by simp [go_sem,y0,y1]) rfl
  ·exact ob_plain [133] rfl rfl fun _ g h=>by obtain ⟨_,y0,rfl⟩:=seen_in rfl h.1; exact tvl (by simp [go_sem,y0]) rfl
  ·exact gTl [15] true 134 rfl rfl rfl fun _ g h=>by have y0:=seen_out rfl rfl h.1; exact tvl (by simp [go_sem,y0]) rfl
  ·exact gTl [135] true 134 rfl rfl rfl fun _ g h=>by obtain ⟨_,y0,rfl⟩:=seen_in rfl h.1; exact tvl (by simp [go_sem,y0]) rfl
  ·exact ob_plain [134,136] rfl rfl fun _ g h=>by obtain ⟨_,y0,rfl⟩:=seen_in rfl h.1; obtain ⟨_,y1,rfl⟩:=seen_in rfl h.2.1; exact tvl (by simp [go_sem,y0,y1]) rfl
  ·exact ob_plain [137] rfl rfl fun _ g h=>by obtain ⟨_,y0,rfl⟩:=seen_in rfl h.1; exact tvl (by simp [go_sem,y0]) rfl
  ·exact gTl [16] true 138 rfl rfl rfl fun _ g h=>by have y0:=seen_out rfl rfl h.1; exact tvl (by simp [go_sem,y0]) rfl
  ·exact gTl [139] true 138 rfl rfl rfl fun _ g h=>by obtain ⟨_,y0,rfl⟩:=seen_in rfl h.1; exact tvl (by simp [go_sem,y0]) rfl
  ·exact ob_plain [138,140] rfl rfl fun _ g h=>by obtain ⟨_,y0,rfl⟩:=seen_in rfl h.1; obtain ⟨_,y1,rfl⟩:=seen_in rfl h.2.1; exact tvl (by simp [go_sem,y0,y1]) rfl
  ·exact ob_plain [141] rfl rfl fun _ g h=>by obtain ⟨_,y0,rfl⟩:=seen_in rfl h.1; exact tvl (by simp [go_sem,y0]) rfl
  ·exact gTl [17] true 142 rfl rfl rfl fun _ g h=>by have y0:=seen_out rfl rfl h.1; exact tvl (by simp [go_sem,y0]) rfl
  ·exact gTl [143] true 142 rfl rfl rfl fun _ g h=>by obtain ⟨_,y0,rfl⟩:=seen_in rfl h.1; exact tvl (by simp [go_sem,y0]) rfl
  ·exact ob_plain [142,144] rfl rfl fun _ g h=>by obtain ⟨_,y0,rfl⟩:=seen_in rfl h.1; obtain ⟨_,y1,rfl⟩:=seen_in rfl h.2.1; exact tvl (by simp [go_sem,y0,y1]) rfl
  ·exact ob_plain [145] rfl rfl fun _ g h=>by obtain ⟨_,y0,rfl⟩:=seen_in rfl h.1; exact tvl (by simp [go_sem,y0]) rfl
  ·exact gTl [1] true 146 rfl rfl rfl fun _ g h=>by have y0:=seen_out rfl rfl h.1; exact tvl (by simp [go_sem,y0,c0 g,c1 g,c2 g,c3 g,c4 g]) rfl
  ·exact gTl [147] true 146 rfl rfl rfl fun _ g h=>by obtain ⟨_,y0,rfl⟩:=seen_in rfl h.1; exact tupon_enter (f:=19) (args:=#[.agg #[.int .i64 2,.int .i64 32768,.int .i64 1024,.int .i64 65536,.int .i64 20000],.int .i64 40000]) (by simp [go_sem,y0]) rfl ((KG1.out g.w).mono fun e w' ⟨he,hB⟩=>⟨_,he,hB,rfl⟩)
  ·exact gTl [148] true 146 rfl rfl rfl fun _ g h=>by obtain ⟨_,y0,rfl⟩:=seen_in rfl h.1; exact tvl (by simp [go_sem,y0]) rfl
  ·exact ob_plain [146,149] rfl rfl fun _ g h=>by obtain ⟨_,y0,rfl⟩:=seen_in rfl h.1; obtain ⟨_,y1,rfl⟩:=seen_in rfl h.2.1; exact tvl (by simp [go_sem,y0,y1]) rfl
  ·exact ob_plain [150] rfl rfl fun _ g h=>by obtain ⟨_,y0,rfl⟩:=seen_in rfl h.1; exact tvl (by simp [go_sem,y0]) rfl
  ·exact gTl [1] true 151 rfl rfl rfl fun _ g h=>by have y0:=seen_out rfl rfl h.1; exact tvl (by simp [go_sem,y0,c0 g,c1 g,c2 g,c3 g,c4 g]) rfl
  ·exact gTl [152] true 151 rfl rfl rfl fun _ g h=>by obtain ⟨_,y0,rfl⟩:=seen_in rfl h.1; exact tupon_enter (f:=19) (args:=#[.agg #[.int .i64 2,.int .i64 32768,.int .i64 1024,.int .i64 65536,.int .i64 20000],.int .i64 3]) (by simp [go_sem,y0]) rfl ((KG2.out g.w).mono fun e w' ⟨he,hB⟩=>⟨_,he,hB,rfl⟩)
  ·exact gTl [153] true 151 rfl rfl rfl fun _ g h=>by obtain ⟨_,y0,rfl⟩:=seen_in rfl h.1; exact tvl (by simp [go_sem,y0]) rfl
  ·exact ob_plain [151,154] rfl rfl fun _ g h=>by obtain ⟨_,y0,rfl⟩:=seen_in rfl h.1; obtain ⟨_,y1,rfl⟩:=seen_in rfl h.2.1; exact tvl (by simp [go_sem,y0,y1]) rfl
  ·exact ob_plain [155] rfl rfl fun _ g h=>by obtain ⟨_,y0,rfl⟩:=seen_in rfl h.1; exact tvl (by simp [go_sem,y0]) rfl
  ·exact gTl [1] true 156 rfl rfl rfl fun _ g h=>by have y0:=seen_out rfl rfl h.1; exact tvl (by simp [go_sem,y0,c0 g,c1 g,c2 g,c3 g,c4 g]) rfl
  ·exact gTl [157] true 156 rfl rfl rfl fun _ g h=>by obtain ⟨_,y0,rfl⟩:=seen_in rfl h.1; exact tupon_enter (f:=21) (args:=#[.agg #[.int .i64 2,.int .i64 32768,.int .i64 1024,.int .i64 65536,.int .i64 20000],.int .i64 100]) (by simp [go_sem,y0]) rfl ((KI1.out g.w).mono fun e w' ⟨he,hB⟩=>⟨_,he,hB,rfl⟩)
  ·exact gTl [158] true 156 rfl rfl rfl fun _ g h=>by obtain ⟨_,y0,rfl⟩:=seen_in rfl h.1; exact tvl (by simp [go_sem,y0]) rfl
  ·exact ob_plain [156,159] rfl rfl fun _ g h=>by obtain ⟨_,y0,rfl⟩:=seen_in rfl h.1; obtain ⟨_,y1,rfl⟩:=seen_in rfl h.2.1; exact tvl (by simp [go_sem,y0,y1]) rfl
  ·exact ob_plain [160] rfl rfl fun _ g h=>by obtain ⟨_,y0,rfl⟩:=seen_in rfl h.1; exact tvl (by simp [go_sem,y0]) rfl
  ·exact gTl [1] true 161 rfl rfl rfl fun _ g h=>by have y0:=seen_out rfl rfl h.1; exact tvl (by simp [go_sem,y0,c0 g,c1 g,c2 g,c3 g,c4 g]) rfl
  ·exact gTl [162] true 161 rfl rfl rfl fun _ g h=>by obtain ⟨_,y0,rfl⟩:=seen_in rfl h.1; exact tupon_enter (f:=21) (args:=#[.agg #[.int .i64 2,.int .i64 32768,.int .i64 1024,.int .i64 65536,.int .i64 20000],.int .i64 40000]) (by simp [go_sem,y0]) rfl ((KI2.out g.w).mono fun e w' ⟨he,hB⟩=>⟨_,he,hB,rfl⟩)
  ·exact gTl [163] true 161 rfl rfl rfl fun _ g h=>by obtain ⟨_,y0,rfl⟩:=seen_in rfl h.1; exact tvl (by simp [go_sem,y0]) rfl
  ·exact ob_plain [161,164] rfl rfl fun _ g h=>by obtain ⟨_,y0,rfl⟩:=seen_in rfl h.1; obtain ⟨_,y1,rfl⟩:=seen_in rfl h.2.1; exact tvl (by simp [go_sem,y0,y1]) rfl
  ·exact ob_plain [165] rfl rfl fun _ g h=>by obtain ⟨_,y0,rfl⟩:=seen_in rfl h.1; exact tvl (by simp [go_sem,y0]) rfl
  ·exact gTl [1] true 166 rfl rfl rfl fun _ g h=>by have y0:=seen_out rfl rfl h.1; exact tvl (by simp [go_sem,y0,c0 g,c1 g,c2 g,c3 g,c4 g]) rfl
  ·exact gTl [4] true 166 rfl rfl rfl fun _ g h=>by have y0:=seen_out rfl rfl h.1; exact tvl (by simp [go_sem,y0,s0 g,s1 g,s2 g,s3 g,s4 g,s5 g]) rfl
  ·exact gTl [167,168] true 166 rfl rfl rfl fun _ g h=>by obtain ⟨_,y0,rfl⟩:=seen_in rfl h.1; obtain ⟨_,y1,rfl⟩:=seen_in rfl h.2.1; exact tupon_enter (f:=23) (args:=#[.agg #[.int .i64 2,.int .i64 32768,.int .i64 1024,.int .i64 65536,.int .i64 20000],.agg #[.int .i64 0,.int .i64 16384,.slice p1a 1 q1a,.slice p2a 1 q2a,.slice (some ⟨g3a,o3a,none⟩) 1 q3a,.slice (some ⟨g4a,o4a,none⟩) 1 q4a]]) (by simp [go_sem,y0,y1]) rfl ((KA1.out g.w (HVa.out.grow g.h).1 (HEa.out.grow g.h).1).mono fun e w' ⟨he,hB⟩=>⟨_,he,hB,rfl⟩)
  ·exact ob_plain [166,169] rfl rfl fun _ g h=>by obtain ⟨_,y0,rfl⟩:=seen_in rfl h.1; obtain ⟨_,y1,rfl⟩:=seen_in rfl h.2.1; exact tvl (by simp [go_sem,y0,y1]) rfl
  ·exact ob_plain [170] rfl rfl fun _ g h=>by obtain ⟨_,y0,rfl⟩:=seen_in rfl h.1; exact tvl (by simp [go_sem,y0]) rfl
  ·exact gTl [10] true 171 rfl rfl rfl fun _ g h=>by have y0:=seen_out rfl rfl h.1; exact tvl (by simp [go_sem,y0,n0 g,n1 g,n2 g,n3 g,n4 g]) rfl
  ·exact gTl [4] true 171 rfl rfl rfl fun _ g h=>by have y0:=seen_out rfl rfl h.1; exact tvl (by simp [go_sem,y0,s0 g,s1 g,s2 g,s3 g,s4 g,s5 g]) rfl
  ·exact gTl [172,173] true 171 rfl rfl rfl fun _ g h=>by obtain ⟨_,y0,rfl⟩:=seen_in rfl h.1; obtain ⟨_,y1,rfl⟩:=seen_in rfl h.2.1; exact tupon_enter (f:=23) (args:=#[.agg #[.int .i64 2,.int .i64 32768,.int .i64 1024,.int .i64 65536,.int .i64 1000],.agg #[.int .i64 0,.int .i64 16384,.slice p1a 1 q1a,.slice p2a 1 q2a,.slice (some ⟨g3a,o3a,none⟩) 1 q3a,.slice (some ⟨g4a,o4a,none⟩) 1 q4a]]) (by simp [go_sem,y0,y1]) rfl ((KA2.out g.w (HVa.out.grow g.h).1 (HEa.out.grow g.h).1).mono fun e w' ⟨he,hB⟩=>⟨_,he,hB,rfl⟩)
  ·exact gTl [174] true 171 rfl rfl rfl fun _ g h=>by obtain ⟨_,y0,rfl⟩:=seen_in rfl h.1; exact tvl (by simp [go_sem,y0]) rfl
  ·exact ob_plain [171,175] rfl rfl fun _ g h=>by obtain ⟨_,y0,rfl⟩:=seen_in rfl h.1; obtain ⟨_,y1,rfl⟩:=seen_in rfl h.2.1; exact tvl (by simp [go_sem,y0,y1]) rfl
  ·exact ob_plain [176] rfl rfl fun _ g h=>by obtain ⟨_,y0,rfl⟩:=seen_in rfl h.1; exact tvl (by simp [go_sem,y0]) rfl
 rintro wz hB _ rfl _ rfl _ rfl _ rfl _ rfl _ rfl _ rfl _ rfl _ rfl _ rfl _ rfl _ rfl _ rfl _ rfl _ rfl _ rfl _ rfl _ rfl _ rfl _ rfl _ rfl _ rfl _ rfl _ rfl _ rfl _ rfl _ rfl _ rfl _ rfl _ rfl _ rfl _ rfl _ rfl _ rfl _ rfl _ rfl _ rfl _ rfl _ rfl _ rfl _ rfl _ rfl _ rfl _ rfl _ rfl _ rfl _ rfl _ rfl _ rfl _ rfl _ rfl _ rfl _ rfl _ rfl _ rfl _ rfl _ rfl _ rfl _ rfl _ rfl _ rfl _ rfl _ rfl _ rfl _ rfl _ rfl _ rfl _ rfl _ rfl _ rfl _ rfl _ rfl _ rfl _ rfl _ rfl _ rfl _ rfl _ rfl _ rfl _ rfl _ rfl _ rfl _ rfl _ rfl _ rfl _ rfl _ rfl _ rfl _ rfl _ rfl _ rfl _ rfl _ rfl _ rfl _ rfl _ rfl _ rfl _ rfl _ rfl _ rfl _ rfl _ rfl
 simp only [Act.put,List.setIfInBounds_toArray,List.set_cons_succ,List.set_cons_zero,List.filterMap_nil,finP]
 have HW9:=below_then HW.out hB
 clear hB
 go_wp2_with (fail)
 go_ret
 exact ⟨rfl,HW9⟩
end Go.Proofs.YtekjflfkbgklhaaGreat
