/-
 Gl
-/
import Derived.Test.YtdfdpghdjlgghaaGreatKda
import Derived.Test.YtdfdpghdjlgghaaGreatKdb
import Derived.Test.YtdfdpghdjlgghaaGreatKdj
import Derived.Test.YtdfdpghdjlgghaaGreatKdm
import Derived.Test.YtdfdpghdjlgghaaGreatKdv
import Derived.Test.YtdfdpghdjlgghaaGreatKdzb
namespace Go.Proofs.YtdfdpghdjlgghaaGreat
open Go.ChangeShapes Go.WideShapes Go.ChangeAt Go.RowKit
set_option linter.unusedVariables false
set_option linter.unusedSimpArgs false
set_option maxRecDepth 100000
attribute [local irreducible] Calls
theorem point14 (n:Int) (w:World) (h1:-16384 ≤ n) (h2:n ≤ 16384):Calls Tryz.prog 53 #[.int .i64 n] w fun e w'=>∃ p c,e = .returned (.slice (some ⟨p,0,none⟩) 1 c)∧Vx w' (.slice (some ⟨p,0,none⟩) 1 c) [(n * 65536,n * 65536)]∧w.heap.size ≤ p∧Below w.heap.size w w':=by
 have KP:=Lib.hid (fun w=>point_at (n * 65536) w (by unfold mkLo; rw [if_pos ⟨⟨by omega,by omega⟩,⟨by omega,by omega⟩⟩]) (by unfold mkHi; rw [if_pos ⟨⟨by omega,by omega⟩,⟨by omega,by omega⟩⟩]))
 go_enter Tryz.func53,Tryz.ntmps53
 go_wp2_with (fail)
 refine (KP.out _).mono ?_
 rintro e w5 ⟨rfl,hB⟩
 have hB6:=hB.alloc hB.size (.cells #[.int .i64 (n * 65536),.int .i64 (n * 65536)] 66)
 have hx:Vx (w5.alloc (.cells #[.int .i64 (n * 65536),.int .i64 (n * 65536)] 66)) (.slice (some ⟨w5.heap.size,0,none⟩) 1 1) [(n * 65536,n * 65536)]:=Rx.cells encB_len w5 [(n * 65536,n * 65536)] 66 (by unfold maxLen; simp)
 have HX:=Lib.hid hx
 have HB6:=Lib.hid hB6
 have hs:=hB.size
 clear hx hB6 hB
 go_wp2_with (fail)
 go_ret
 exact ⟨w5.heap.size,1,rfl,HX.out,hs,HB6.out⟩
theorem span14 (m n:Int) (w:World) (h1:-16384 ≤ n) (h2:n ≤ 16384) (h3:-16384 ≤ m) (h4:m ≤ 16384):Calls Tryz.prog 54 #[.int .i64 m,.int .i64 n] w fun e w'=>∃ p c,e = .returned (.slice (some ⟨p,0,none⟩) 1 c)∧Vx w' (.slice (some ⟨p,0,none⟩) 1 c) [(m * 65536,n * 65536)]∧w.heap.size ≤ p∧Below w.heap.size w w':=by
 have hB6:Below w.heap.size w (w.alloc (.cells #[.int .i64 (m * 65536),.int .i64 (n * 65536)] 66)):=(Below.refl _ _).alloc (Nat.le_refl _) _
 have hx:Vx (w.alloc (.cells #[.int .i64 (m * 65536),.int .i64 (n * 65536)] 66)) (.slice (some ⟨w.heap.size,0,none⟩) 1 1) [(m * 65536,n * 65536)]:=Rx.cells encB_len w [(m * 65536,n * 65536)] 66 (by unfold maxLen; simp)
 have HX:=Lib.hid hx
 have HB6:=Lib.hid hB6
 clear hx hB6
 go_enter Tryz.func54,Tryz.ntmps54
 go_wp2_with (fail)
 go_ret
 exact ⟨w.heap.size,1,rfl,HX.out,Nat.le_refl _,HB6.out⟩
theorem below_row14 {B:Nat} {w W:World} (h:Below B w W) {X:Nat} (hX:B ≤ X) (cs:Array Value):Below B w (W.setRow X cs) :=
 ⟨h.os,h.tape,h.output,by rw [setRow_size]; exact h.size,fun j hj=>(setRow_other W X j cs (by omega)).trans (h.block j hj)⟩
theorem num14 (v:Int) (w:World) (h1:-1073741824 ≤ v) (h2:v ≤ 1073741824):Calls Tryz.prog 32 #[.int .i64 v] w fun e w'=>e = .returned (.agg #[.int .i64 1,.int .i64 0,.int .i64 0,.int .i64 v,.int .i64 v])∧Below w.heap.size w w':=by
 have KP:=Lib.hid (fun w=>point_at v w (by unfold mkLo; rw [if_pos ⟨⟨by omega,by omega⟩,⟨by omega,by omega⟩⟩]) (by unfold mkHi; rw [if_pos ⟨⟨by omega,by omega⟩,⟨by omega,by omega⟩⟩]))
 have hE:Below w.heap.size w (w.alloc (.cells #[.int .i64 0,.int .i64 0,.int .i64 0,.int .i64 0,.int .i64 0] 75)):=(Below.refl _ _).alloc (Nat.le_refl _) _
 have HZ:=Lib.hid (show Blk (w.alloc (.cells #[.int .i64 0,.int .i64 0,.int .i64 0,.int .i64 0,.int .i64 0] 75)) w.heap.size (.cells #[.int .i64 0,.int .i64 0,.int .i64 0,.int .i64 0,.int .i64 0] 75) from World.alloc_heap_new w _)
 have HW:=Lib.hid hE
 clear hE
 go_enter Tryz.func32,Tryz.ntmps32
 go_wp2_with (fail)
 refine (KP.out _).mono ?_
 rintro e w5 ⟨rfl,hB⟩
 have hz:=HZ.out.grow hB
 have HB5:=Lib.hid (below_then HW.out hB)
 clear hB
 have HW9:=Lib.hid (below_row14 (X:=w.heap.size) HB5.out (by omega) #[.int .i64 1,.int .i64 0,.int .i64 0,.int .i64 v,.int .i64 v])
 have hs9:=setRow_heap w5 (w.heap.size) _ #[.int .i64 1,.int .i64 0,.int .i64 0,.int .i64 v,.int .i64 v] _ _ hz
 have x0:=heapN_cellj hs9 (k:=0) rfl
 have x1:=heapN_cellj hs9 (k:=1) rfl
 have x2:=heapN_cellj hs9 (k:=2) rfl
 have x3:=heapN_cellj hs9 (k:=3) rfl
 have x4:=heapN_cellj hs9 (k:=4) rfl
 clear hs9
 go_wp2_with (first | (refine wpList_store_row rfl 75 (.tmp 2) (.tmp 5) rfl (w.heap.size) #[.int .i64 1,.int .i64 0,.int .i64 0,.int .i64 v,.int .i64 v] rfl rfl 75 _ (show w5.heap[w.heap.size]? = some (.cells _ 75 (0,0)) from hz) (by kernel_rfl) rfl (by first | rfl | decide | simp [Value.oneCell']) ?_))
 exact bodyPost_ret (v:=.agg #[.int .i64 1,.int .i64 0,.int .i64 0,.int .i64 v,.int .i64 v]) (by simp [results,Tryz.results32,go_sem,x0,x1,x2,x3,x4]) rfl ⟨rfl,HW9.out⟩
theorem rx_row14 {α:Type} {enc:α→List Value} {sz:Nat} {W:World} {b n c X:Nat} {l:List α} (h:Rx enc sz W (.slice (some ⟨b,0,none⟩) n c) l) (hX:b ≠ X) (cs:Array Value):Rx enc sz (W.setRow X cs) (.slice (some ⟨b,0,none⟩) n c) l:=by
 obtain ⟨h1,p,c',e,h2⟩:=h
 refine ⟨h1,p,c',e,fun i x hx=>?_⟩
 obtain ⟨b',o,rfl,h3,h4⟩:=h2 i x hx
 simp only [Value.slice.injEq,Option.some.injEq,Addr.mk.injEq] at e
 obtain ⟨⟨rfl,-,-⟩,-⟩:=e
 refine ⟨b,o,rfl,by rw [setRow_size]; exact h3,fun j u hu=>?_⟩
 have:=h4 j u hu
 unfold World.cell? at this ⊢
 rw [setRow_other W X b cs hX]
 exact this
set_option maxHeartbeats 4000000 in
theorem steady14 (v:Int) (w:World) (h1:-1073741824 ≤ v) (h2:v ≤ 1073741824):Calls Tryz.prog 26 #[.int .i64 v] w fun e w'=>∃ a b,e = .returned (.agg #[.int .i64 1,.slice (some ⟨a,0,none⟩) 1 1,.slice (some ⟨b,0,none⟩) 1 1])∧Ix w' (.slice (some ⟨a,0,none⟩) 1 1) [⟨1,0,0,v,v⟩]∧Px w' (.slice (some ⟨b,0,none⟩) 1 1) [0]∧Below w.heap.size w w':=by
 have KN:=Lib.hid (fun w=>num14 v w h1 h2)
 have hE:Below w.heap.size w (w.alloc (.cells #[.int .i64 0,.slice none 0 0,.slice none 0 0] 35)):=(Below.refl _ _).alloc (Nat.le_refl _) _
 have HZ:=Lib.hid (show Blk (w.alloc (.cells #[.int .i64 0,.slice none 0 0,.slice none 0 0] 35)) w.heap.size (.cells #[.int .i64 0,.slice none 0 0,.slice none 0 0] 35) from World.alloc_heap_new w _)
 have HW:=Lib.hid hE
 clear hE
 go_enter Tryz.func26,Tryz.ntmps26
 go_wp2_with (fail)
 refine (KN.out _).mono ?_
 rintro e w5 ⟨rfl,hB⟩
 have hz:=HZ.out.grow hB
 have HB5:=Lib.hid (below_then HW.out hB)
 have hlt:w.heap.size < w5.heap.size:=(Array.getElem?_eq_some_iff.1 hz).1
 obtain ⟨W6,hW6⟩:∃ W6,w5.alloc (.cells #[.int .i64 1,.int .i64 0,.int .i64 0,.int .i64 v,.int .i64 v] 75) = W6:=⟨_,rfl⟩
 have hb6:Below w5.heap.size w5 W6:=by rw [← hW6]; exact (Below.refl _ _).alloc (Nat.le_refl _) _
 have hi6:Ix W6 (.slice (some ⟨w5.heap.size,0,none⟩) 1 1) [⟨1,0,0,v,v⟩]:=by rw [← hW6]; exact Rx.cells encI_len w5 [⟨1,0,0,v,v⟩] 75 (by unfold maxLen; simp)
 have hl6:w5.heap.size < W6.heap.size:=by rw [← hW6]; simp
 obtain ⟨W7,hW7⟩:∃ W7,W6.alloc (.cells #[.int .i64 0] 3) = W7:=⟨_,rfl⟩
 have hb7:Below W6.heap.size W6 W7:=by rw [← hW7]; exact (Below.refl _ _).alloc (Nat.le_refl _) _
 have ho7:Px W7 (.slice (some ⟨W6.heap.size,0,none⟩) 1 1) [0]:=by rw [← hW7]; exact Rx.cells enc1_len W6 [0] 3 (by unfold maxLen; simp)
 have HI:=Lib.hid (hi6.grow hb7)
 have HO:=Lib.hid ho7
 have HB7:=Lib.hid (below_then (below_then HB5.out hb6) hb7)
 have hz7:=(HZ.out.grow hB).grow (hb6.trans (hb7.mono (Nat.le_of_lt hl6)))
 clear hB hz hb6 hi6 hb7 ho7
 have HW9:=Lib.hid (below_row14 (X:=w.heap.size) HB7.out (by omega) #[.int .i64 1,.slice (some ⟨w5.heap.size,0,none⟩) 1 1,.slice (some ⟨W6.heap.size,0,none⟩) 1 1])
 have hs9:=setRow_heap W7 (w.heap.size) _ #[.int .i64 1,.slice (some ⟨w5.heap.size,0,none⟩) 1 1,.slice (some ⟨W6.heap.size,0,none⟩) 1 1] _ _ hz7
 have x0:=heapN_cellj hs9 (k:=0) rfl
 have x1:=heapN_cellj hs9 (k:=1) rfl
 have x2:=heapN_cellj hs9 (k:=2) rfl
 clear hs9
 go_wp2_with (first | (refine wpList_store_row rfl 35 (.tmp 2) (.tmp 7) rfl (w.heap.size) #[.int .i64 1,.slice (some ⟨w5.heap.size,0,none⟩) 1 1,.slice (some ⟨W6.heap.size,0,none⟩) 1 1] rfl rfl 35 _ (show W7.heap[w.heap.size]? = some (.cells _ 35 (0,0)) from hz7) (by kernel_rfl) rfl (by first | rfl | decide | simp [Value.oneCell']) ?_))
 exact bodyPost_ret (v:=.agg #[.int .i64 1,.slice (some ⟨w5.heap.size,0,none⟩) 1 1,.slice (some ⟨W6.heap.size,0,none⟩) 1 1]) (by simp [results,Tryz.results26,go_sem,x0,x1,x2]) rfl ⟨_,_,rfl,rx_row14 HI.out (by omega) _,rx_row14 HO.out (by omega) _,HW9.out⟩
theorem control14 (od:Int) (w:World) (h0:0 ≤ od) (h1:od ≤ 255):Calls Tryz.prog 55 #[.int .u8 od] w fun e w'=>e = .returned (.agg #[.int .i64 (1+od % 3),.int .i64 4096,.int .i64 1024,.int .i64 16384,.int .i64 16777216])∧Below w.heap.size w w':=by
 have hE:Below w.heap.size w (w.alloc (.cells #[.int .i64 0,.int .i64 0,.int .i64 0,.int .i64 0,.int .i64 0] 25)):=(Below.refl _ _).alloc (Nat.le_refl _) _
 have hz:(w.alloc (.cells #[.int .i64 0,.int .i64 0,.int .i64 0,.int .i64 0,.int .i64 0] 25)).heap[w.heap.size]? = some (.cells #[.int .i64 0,.int .i64 0,.int .i64 0,.int .i64 0,.int .i64 0] 25 (0,0)):=World.alloc_heap_new w _
 have HW:=Lib.hid hE
 clear hE
 have hm:=Int.emod_nonneg od (show (3:Int) ≠ 0 by decide)
 have hm2:=Int.emod_lt_of_pos od (show (0:Int) < 3 by decide)
 go_enter Tryz.func55,Tryz.ntmps55
 have HW9:=Lib.hid (below_row14 (X:=w.heap.size) HW.out (by omega) #[.int .i64 (1+od % 3),.int .i64 4096,.int .i64 1024,.int .i64 16384,.int .i64 16777216])
 have hs9:=setRow_heap (w.alloc (.cells #[.int .i64 0,.int .i64 0,.int .i64 0,.int .i64 0,.int .i64 0] 25)) (w.heap.size) _ #[.int .i64 (1+od % 3),.int .i64 4096,.int .i64 1024,.int .i64 16384,.int .i64 16777216] _ _ hz
 have x0:=heapN_cellj hs9 (k:=0) rfl
 have x1:=heapN_cellj hs9 (k:=1) rfl
 have x2:=heapN_cellj hs9 (k:=2) rfl
 have x3:=heapN_cellj hs9 (k:=3) rfl
 have x4:=heapN_cellj hs9 (k:=4) rfl
 clear hs9
 go_wp2_with (first | (refine wpList_store_row rfl 25 (.tmp 2) (.tmp 7) rfl (w.heap.size) #[.int .i64 (1+od % 3),.int .i64 4096,.int .i64 1024,.int .i64 16384,.int .i64 16777216] rfl rfl 25 _ (show (w.alloc (.cells #[.int .i64 0,.int .i64 0,.int .i64 0,.int .i64 0,.int .i64 0] 25)).heap[w.heap.size]? = some (.cells _ 25 (0,0)) from hz) (by kernel_rfl) rfl (by first | rfl | decide | simp [Value.oneCell']) ?_))
 exact bodyPost_ret (v:=.agg #[.int .i64 (1+od % 3),.int .i64 4096,.int .i64 1024,.int .i64 16384,.int .i64 16777216]) (by simp [results,Tryz.results55,go_sem,x0,x1,x2,x3,x4]) rfl ⟨rfl,HW9.out⟩
end Go.Proofs.YtdfdpghdjlgghaaGreat
