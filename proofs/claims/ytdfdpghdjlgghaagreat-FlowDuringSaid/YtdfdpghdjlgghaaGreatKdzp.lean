/-
 Gm
-/
import Derived.Test.YtdfdpghdjlgghaaGreatKdv
import Derived.Test.YtdfdpghdjlgghaaGreatKdy
import Derived.Test.YtdfdpghdjlgghaaGreatKdzm
import Derived.Test.YtdfdpghdjlgghaaGreatKdzn
import Derived.Test.YtdfdpghdjlgghaaGreatKdzo
namespace Go.Proofs.YtdfdpghdjlgghaaGreat
open Go.ChangeShapes Go.WideShapes Go.ChangeAt Go.RowKit
set_option linter.unusedVariables false
set_option linter.unusedSimpArgs false
set_option maxRecDepth 100000
attribute [local irreducible] Calls
theorem fst_of {p:Sr→Bool} {l:List Sr} {i:Nat} (h1:i ≤ l.length) (h2:(l.take i).all (fun x=>!p x) = true) (h3:(l.drop i).all p = true):Fst p l i:=by
 refine ⟨h1,fun j x hj hx=>?_,fun j x hj hx=>?_⟩
 ·have hm:x ∈ l.take i:=List.mem_of_getElem? (i:=j) (by rw [List.getElem?_take]; simp [hj,hx])
  have:=List.all_eq_true.1 h2 x hm
  simpa using this
 ·have hm:x ∈ l.drop i:=List.mem_of_getElem? (i:=j - i) (by rw [List.getElem?_drop,show i+(j - i) = j by omega]; exact hx)
  exact List.all_eq_true.1 h3 x hm
def sg3 (k:Int) (p1 p2 p3 p4:Nat) (c1 c2 c3 c4:Nat):Sr:=⟨k * 65536,65536,some ⟨p1,0,none⟩,some ⟨p2,0,none⟩,some ⟨p3,0,none⟩,some ⟨p4,0,none⟩,c1,c2,c3,c4,[(k * 65536,k * 65536)],[(k * 65536,(k+1) * 65536)],[(k * 65536,(k+1) * 65536)],[((k+1) * 65536,(k+1) * 65536)]⟩
theorem vi14 {a b:Int} (h1:-2147483648 < a) (h2:b < 2147483648) (h:a ≤ b):AV [(a,b)]:=fun p hp=>by
 obtain rfl:=List.mem_singleton.1 hp
 exact .inr ⟨⟨by dsimp only; omega,by dsimp only; omega⟩,⟨by dsimp only; omega,by dsimp only; omega⟩,h⟩
theorem sg3_box {k:Int} (h0:0 ≤ k) (h1:k ≤ 2) (p1 p2 p3 p4:Nat) (c1 c2 c3 c4:Nat):let x:=sg3 k p1 p2 p3 p4 c1 c2 c3 c4; x.F.length = 1∧x.P.length = 1∧x.U.length = 1∧x.E.length = 1∧AV x.F∧AV x.P∧AV x.U∧AV x.E :=
 ⟨rfl,rfl,rfl,rfl,vi14 (by omega) (by omega) (by omega),vi14 (by omega) (by omega) (by omega),vi14 (by omega) (by omega) (by omega),vi14 (by omega) (by omega) (by omega)⟩
theorem sg3_tm {k:Int} (h0:0 ≤ k) (h1:k ≤ 2) (p1 p2 p3 p4:Nat) (c1 c2 c3 c4:Nat):let x:=sg3 k p1 p2 p3 p4 c1 c2 c3 c4; 1 ≤ x.h∧x.h < 2147483648∧-2147483648 < x.t∧x.t+x.h < 2147483648:=by
 unfold sg3
 dsimp only
 omega
def stp14:Int→Option Sg:=fun h=>stpI [⟨1,0,0,65536,65536⟩] [0] [(0,0)] 0 h 1
theorem nm14:NmL [⟨1,0,0,65536,65536⟩]:=fun j x h=>by
 have:=List.mem_of_getElem? h
 simp only [List.mem_singleton] at this
 subst this
 rfl
theorem tv14a:tvB 1 [⟨1,0,0,65536,65536⟩] [0] = true:=by decide
theorem adv14:advI stp14 1024 16777216 3000 = some (3000,[(0,3000)],[(0,3000)],[(3000,3000)]):=by kernel_rfl
theorem con3 (a b c:Sr) (h1:b.t = a.t+a.h) (h2:c.t = b.t+b.h):∀ (i:Nat) x y,[a,b,c][i]? = some x→[a,b,c][i+1]? = some y→y.t = x.t+x.h:=by
 intro i x y hx hy
 match i,hx,hy with
 | 0,hx,hy =>
  obtain rfl:a = x:=by simpa using hx
  obtain rfl:b = y:=by simpa using hy
  exact h1
 | 1,hx,hy =>
  obtain rfl:b = x:=by simpa using hx
  obtain rfl:c = y:=by simpa using hy
  exact h2
 | i+2,hx,hy=>simp at hy
def l3 (p1 p2 p3 p4 p5 p6 p7 p8 p9 p10 p11 p12 c1 c2 c3 c4 c5 c6 c7 c8 c9 c10 c11 c12:Nat):List Sr:=[sg3 0 p1 p2 p3 p4 c1 c2 c3 c4,sg3 1 p5 p6 p7 p8 c5 c6 c7 c8,sg3 2 p9 p10 p11 p12 c9 c10 c11 c12]
theorem fl14 (p1 p2 p3 p4 p5 p6 p7 p8 p9 p10 p11 p12 c1 c2 c3 c4 c5 c6 c7 c8 c9 c10 c11 c12:Nat):FlG 1 (l3 p1 p2 p3 p4 p5 p6 p7 p8 p9 p10 p11 p12 c1 c2 c3 c4 c5 c6 c7 c8 c9 c10 c11 c12) :=
 ⟨by decide,by decide,(show 3 ≤ 256 by decide),fun x hx=>by
  simp only [l3,List.mem_cons,List.not_mem_nil,or_false] at hx
  rcases hx with rfl | rfl | rfl <;> exact sg3_box (by decide) (by decide) _ _ _ _ _ _ _ _,fun x hx=>by
  simp only [l3,List.mem_cons,List.not_mem_nil,or_false] at hx
  rcases hx with rfl | rfl | rfl <;> exact sg3_tm (by decide) (by decide) _ _ _ _ _ _ _ _,con3 _ _ _ rfl rfl⟩
theorem KA1x (p1 p2 p3 p4 p5 p6 p7 p8 p9 p10 p11 p12 c1 c2 c3 c4 c5 c6 c7 c8 c9 c10 c11 c12:Nat) (G:Nat) (w:World) (h:Fx w (.slice (some ⟨G,0,none⟩) 3 3) (l3 p1 p2 p3 p4 p5 p6 p7 p8 p9 p10 p11 p12 c1 c2 c3 c4 c5 c6 c7 c8 c9 c10 c11 c12)):Calls Tryz.prog 28 #[.slice (some ⟨G,0,none⟩) 3 3,.int .i64 65536] w fun e w'=>∃ q d,e = .returned (.tuple #[.slice q 1 d,.bool true])∧Vx w' (.slice q 1 d) [(65536,65536)]∧Below w.heap.size w w' :=
 (At_ok (some ⟨G,0,none⟩) 3 2 1 (l3 p1 p2 p3 p4 p5 p6 p7 p8 p9 p10 p11 p12 c1 c2 c3 c4 c5 c6 c7 c8 c9 c10 c11 c12) 65536 w h rfl (fl14 p1 p2 p3 p4 p5 p6 p7 p8 p9 p10 p11 p12 c1 c2 c3 c4 c5 c6 c7 c8 c9 c10 c11 c12)).mono fun e w' ⟨r,v,hf,he,hv,hB⟩=>by
 obtain rfl:r = 1:=hf.uniq (fst_of (show 1 ≤ 3 by decide) rfl rfl)
 have hr:atR (l3 p1 p2 p3 p4 p5 p6 p7 p8 p9 p10 p11 p12 c1 c2 c3 c4 c5 c6 c7 c8 c9 c10 c11 c12) 65536 1 = some [(65536,65536)]:=rfl
 rw [hr] at he hv
 obtain ⟨q,d,rfl,ho⟩:=hv
 exact ⟨q,d,he,OwI.vx ho (show 1 ≤ 1000 by decide),hB⟩
theorem KA2x (p1 p2 p3 p4 p5 p6 p7 p8 p9 p10 p11 p12 c1 c2 c3 c4 c5 c6 c7 c8 c9 c10 c11 c12:Nat) (G:Nat) (w:World) (h:Fx w (.slice (some ⟨G,0,none⟩) 3 3) (l3 p1 p2 p3 p4 p5 p6 p7 p8 p9 p10 p11 p12 c1 c2 c3 c4 c5 c6 c7 c8 c9 c10 c11 c12)):Calls Tryz.prog 28 #[.slice (some ⟨G,0,none⟩) 3 3,.int .i64 196608] w fun e w'=>∃ q d,e = .returned (.tuple #[.slice q 1 d,.bool true])∧Vx w' (.slice q 1 d) [(196608,196608)]∧Below w.heap.size w w' :=
 (At_ok (some ⟨G,0,none⟩) 3 2 1 (l3 p1 p2 p3 p4 p5 p6 p7 p8 p9 p10 p11 p12 c1 c2 c3 c4 c5 c6 c7 c8 c9 c10 c11 c12) 196608 w h rfl (fl14 p1 p2 p3 p4 p5 p6 p7 p8 p9 p10 p11 p12 c1 c2 c3 c4 c5 c6 c7 c8 c9 c10 c11 c12)).mono fun e w' ⟨r,v,hf,he,hv,hB⟩=>by
 obtain rfl:r = 3:=hf.uniq (fst_of (show 3 ≤ 3 by decide) rfl rfl)
 have hr:atR (l3 p1 p2 p3 p4 p5 p6 p7 p8 p9 p10 p11 p12 c1 c2 c3 c4 c5 c6 c7 c8 c9 c10 c11 c12) 196608 3 = some [(196608,196608)]:=rfl
 rw [hr] at he hv
 obtain ⟨q,d,rfl,ho⟩:=hv
 exact ⟨q,d,he,OwI.vx ho (show 1 ≤ 1000 by decide),hB⟩
theorem KA3x (p1 p2 p3 p4 p5 p6 p7 p8 p9 p10 p11 p12 c1 c2 c3 c4 c5 c6 c7 c8 c9 c10 c11 c12:Nat) (G:Nat) (w:World) (h:Fx w (.slice (some ⟨G,0,none⟩) 3 3) (l3 p1 p2 p3 p4 p5 p6 p7 p8 p9 p10 p11 p12 c1 c2 c3 c4 c5 c6 c7 c8 c9 c10 c11 c12)):Calls Tryz.prog 28 #[.slice (some ⟨G,0,none⟩) 3 3,.int .i64 65537] w fun e w'=>∃ q d,e = .returned (.tuple #[.slice q 1 d,.bool true])∧Vx w' (.slice q 1 d) [(65536,131072)]∧Below w.heap.size w w' :=
 (At_ok (some ⟨G,0,none⟩) 3 2 1 (l3 p1 p2 p3 p4 p5 p6 p7 p8 p9 p10 p11 p12 c1 c2 c3 c4 c5 c6 c7 c8 c9 c10 c11 c12) 65537 w h rfl (fl14 p1 p2 p3 p4 p5 p6 p7 p8 p9 p10 p11 p12 c1 c2 c3 c4 c5 c6 c7 c8 c9 c10 c11 c12)).mono fun e w' ⟨r,v,hf,he,hv,hB⟩=>by
 obtain rfl:r = 1:=hf.uniq (fst_of (show 1 ≤ 3 by decide) rfl rfl)
 have hr:atR (l3 p1 p2 p3 p4 p5 p6 p7 p8 p9 p10 p11 p12 c1 c2 c3 c4 c5 c6 c7 c8 c9 c10 c11 c12) 65537 1 = some [(65536,131072)]:=rfl
 rw [hr] at he hv
 obtain ⟨q,d,rfl,ho⟩:=hv
 exact ⟨q,d,he,OwI.vx ho (show 1 ≤ 1000 by decide),hB⟩
theorem KA4x (p1 p2 p3 p4 p5 p6 p7 p8 p9 p10 p11 p12 c1 c2 c3 c4 c5 c6 c7 c8 c9 c10 c11 c12:Nat) (G:Nat) (w:World) (h:Fx w (.slice (some ⟨G,0,none⟩) 3 3) (l3 p1 p2 p3 p4 p5 p6 p7 p8 p9 p10 p11 p12 c1 c2 c3 c4 c5 c6 c7 c8 c9 c10 c11 c12)):Calls Tryz.prog 28 #[.slice (some ⟨G,0,none⟩) 3 3,.int .i64 (-1)] w fun e w'=>e = .returned (.tuple #[.slice none 0 0,.bool false])∧Below w.heap.size w w' :=
 (At_ok (some ⟨G,0,none⟩) 3 2 1 (l3 p1 p2 p3 p4 p5 p6 p7 p8 p9 p10 p11 p12 c1 c2 c3 c4 c5 c6 c7 c8 c9 c10 c11 c12) (-1) w h rfl (fl14 p1 p2 p3 p4 p5 p6 p7 p8 p9 p10 p11 p12 c1 c2 c3 c4 c5 c6 c7 c8 c9 c10 c11 c12)).mono fun e w' ⟨r,v,hf,he,hv,hB⟩=>by
 obtain rfl:r = 0:=hf.uniq (fst_of (show 0 ≤ 3 by decide) rfl rfl)
 have hr:atR (l3 p1 p2 p3 p4 p5 p6 p7 p8 p9 p10 p11 p12 c1 c2 c3 c4 c5 c6 c7 c8 c9 c10 c11 c12) (-1) 0 = none:=rfl
 rw [hr] at he hv
 obtain rfl:v = .slice none 0 0:=hv
 exact ⟨he,hB⟩
theorem KD1x (p1 p2 p3 p4 p5 p6 p7 p8 p9 p10 p11 p12 c1 c2 c3 c4 c5 c6 c7 c8 c9 c10 c11 c12:Nat) (G:Nat) (w:World) (h:Fx w (.slice (some ⟨G,0,none⟩) 3 3) (l3 p1 p2 p3 p4 p5 p6 p7 p8 p9 p10 p11 p12 c1 c2 c3 c4 c5 c6 c7 c8 c9 c10 c11 c12)):Calls Tryz.prog 29 #[.slice (some ⟨G,0,none⟩) 3 3,.agg #[.int .i64 32768,.int .i64 65536]] w fun e w'=>∃ q d,e = .returned (.tuple #[.slice q 1 d,.bool true])∧Vx w' (.slice q 1 d) [(0,131072)]∧Below w.heap.size w w' :=
 (During_ok (some ⟨G,0,none⟩) 3 1 (l3 p1 p2 p3 p4 p5 p6 p7 p8 p9 p10 p11 p12 c1 c2 c3 c4 c5 c6 c7 c8 c9 c10 c11 c12) 32768 65536 w h (Nat.le_refl 3) (fl14 p1 p2 p3 p4 p5 p6 p7 p8 p9 p10 p11 p12 c1 c2 c3 c4 c5 c6 c7 c8 c9 c10 c11 c12) ⟨G,0,rfl⟩).mono fun e w' ⟨r,v,hf,he,hv,hB⟩=>by
 obtain rfl:r = 0:=hf.uniq (fst_of (show 0 ≤ 3 by decide) rfl rfl)
 have hr:durR (l3 p1 p2 p3 p4 p5 p6 p7 p8 p9 p10 p11 p12 c1 c2 c3 c4 c5 c6 c7 c8 c9 c10 c11 c12) 65536 0 = some [(0,131072)]:=rfl
 rw [hr] at he hv
 have hv:Vx w' v [(0,131072)]:=hv
 obtain ⟨q,d,rfl⟩:=hv.cut
 exact ⟨q,d,he,hv,hB⟩
theorem KD2x (p1 p2 p3 p4 p5 p6 p7 p8 p9 p10 p11 p12 c1 c2 c3 c4 c5 c6 c7 c8 c9 c10 c11 c12:Nat) (G:Nat) (w:World) (h:Fx w (.slice (some ⟨G,0,none⟩) 3 3) (l3 p1 p2 p3 p4 p5 p6 p7 p8 p9 p10 p11 p12 c1 c2 c3 c4 c5 c6 c7 c8 c9 c10 c11 c12)):Calls Tryz.prog 29 #[.slice (some ⟨G,0,none⟩) 3 3,.agg #[.int .i64 196609,.int .i64 196609]] w fun e w'=>e = .returned (.tuple #[.slice none 0 0,.bool false])∧Below w.heap.size w w' :=
 (During_ok (some ⟨G,0,none⟩) 3 1 (l3 p1 p2 p3 p4 p5 p6 p7 p8 p9 p10 p11 p12 c1 c2 c3 c4 c5 c6 c7 c8 c9 c10 c11 c12) 196609 196609 w h (Nat.le_refl 3) (fl14 p1 p2 p3 p4 p5 p6 p7 p8 p9 p10 p11 p12 c1 c2 c3 c4 c5 c6 c7 c8 c9 c10 c11 c12) ⟨G,0,rfl⟩).mono fun e w' ⟨r,v,hf,he,hv,hB⟩=>by
 obtain rfl:r = 3:=hf.uniq (fst_of (show 3 ≤ 3 by decide) rfl rfl)
 have hr:durR (l3 p1 p2 p3 p4 p5 p6 p7 p8 p9 p10 p11 p12 c1 c2 c3 c4 c5 c6 c7 c8 c9 c10 c11 c12) 196609 3 = none:=rfl
 rw [hr] at he hv
 obtain rfl:v = .slice none 0 0:=hv
 exact ⟨he,hB⟩
theorem KE1x (p1 p2 p3 p4 p5 p6 p7 p8 p9 p10 p11 p12 c1 c2 c3 c4 c5 c6 c7 c8 c9 c10 c11 c12:Nat) (G:Nat) (w:World) (h:Fx w (.slice (some ⟨G,0,none⟩) 3 3) (l3 p1 p2 p3 p4 p5 p6 p7 p8 p9 p10 p11 p12 c1 c2 c3 c4 c5 c6 c7 c8 c9 c10 c11 c12)):Calls Tryz.prog 22 #[.slice (some ⟨G,0,none⟩) 3 3] w fun e w'=>∃ q d,e = .returned (.tuple #[.slice q 1 d,.int .i64 196608,.bool true])∧Vx w' (.slice q 1 d) [(196608,196608)]∧Below w.heap.size w w' :=
 (End_ok (some ⟨G,0,none⟩) 3 2 (l3 p1 p2 p3 p4 p5 p6 p7 p8 p9 p10 p11 p12 c1 c2 c3 c4 c5 c6 c7 c8 c9 c10 c11 c12) (sg3 2 p9 p10 p11 p12 c9 c10 c11 c12) w (show 3 ≤ 256 by decide) h rfl rfl (show 0 < 1 by decide) (show 1 ≤ 6 by decide) (show (-4294967296:Int) ≤ 2 * 65536+65536 by decide) (show (2 * 65536+65536:Int) ≤ 4294967296 by decide)).mono fun e w' ⟨q,d,he,ho,hB⟩=>⟨q,d,he,OwI.vx ho (show 1 ≤ 1000 by decide),hB⟩
theorem KI1x (p1 p2 p3 p4 p5 p6 p7 p8 p9 p10 p11 p12 c1 c2 c3 c4 c5 c6 c7 c8 c9 c10 c11 c12:Nat) (G:Nat) (w:World) (h:Fx w (.slice (some ⟨G,0,none⟩) 3 3) (l3 p1 p2 p3 p4 p5 p6 p7 p8 p9 p10 p11 p12 c1 c2 c3 c4 c5 c6 c7 c8 c9 c10 c11 c12)):Calls Tryz.prog 40 #[.int .i64 7,.slice (some ⟨G,0,none⟩) 3 3] w fun e w'=>∃ q d,e = .returned (.slice (some ⟨q,0,none⟩) 3 d)∧(∀ g:Grown w',g.w.cell? ⟨q,4,none⟩ = some (.int .i64 7)∧g.w.cell? ⟨q,5,none⟩ = some (.int .i64 65536)∧g.w.cell? ⟨q,6,none⟩ = some (.int .i64 131072))∧Below w.heap.size w w' :=
 (Items_ok 7 (some ⟨G,0,none⟩) 3 1 (l3 p1 p2 p3 p4 p5 p6 p7 p8 p9 p10 p11 p12 c1 c2 c3 c4 c5 c6 c7 c8 c9 c10 c11 c12) w h (fl14 p1 p2 p3 p4 p5 p6 p7 p8 p9 p10 p11 p12 c1 c2 c3 c4 c5 c6 c7 c8 c9 c10 c11 c12)).mono fun e w' ⟨q,d,ms,he,ho,hf,hB⟩=>by
 have h3:ms.length = 3:=hf.1
 obtain ⟨y,hy⟩:∃ y,ms[1]? = some y:=⟨_,List.getElem?_eq_getElem (by omega)⟩
 have hp:=hf.2 1 (sg3 1 p5 p6 p7 p8 c5 c6 c7 c8) y rfl hy
 rw [h3] at he
 have hz:=Rx.own encIm_len ho.row (by unfold maxLen; omega)
 obtain ⟨b,o,hpp,-,rd⟩:=hz.rd hy
 have hrow:=ho.row
 rw [h3] at hrow
 obtain ⟨O9,c9,e9,-,-⟩:=ot_cut hrow (by decide)
 obtain ⟨rfl,-,rfl⟩:q = some ⟨O9,0,none⟩∧True∧d = c9:=by
  simp only [Value.slice.injEq] at e9
  exact ⟨e9.1,trivial,e9.2.2⟩
 obtain ⟨rfl,rfl⟩:O9 = b∧0 = o:=by simpa using hpp
 refine ⟨O9,d,he,fun g=>?_,hB⟩
 have r0:=rd g 0 _ rfl
 have r1:=rd g 1 _ rfl
 have r2:=rd g 2 _ rfl
 rw [hp.1] at r0
 rw [hp.2.1] at r1
 rw [hp.2.2.1] at r2
 exact ⟨r0,r1,r2⟩
theorem KV1x (p1 p2 p3 p4 p5 p6 p7 p8 p9 p10 p11 p12 c1 c2 c3 c4 c5 c6 c7 c8 c9 c10 c11 c12:Nat) (G:Nat) (w:World) (h:Fx w (.slice (some ⟨G,0,none⟩) 3 3) (l3 p1 p2 p3 p4 p5 p6 p7 p8 p9 p10 p11 p12 c1 c2 c3 c4 c5 c6 c7 c8 c9 c10 c11 c12)):Calls Tryz.prog 23 #[.slice (some ⟨G,0,none⟩) 3 3] w fun e w'=>e = .returned (.bool true)∧Below w.heap.size w w' :=
 Valid_ok (some ⟨G,0,none⟩) 3 1 3 (l3 p1 p2 p3 p4 p5 p6 p7 p8 p9 p10 p11 p12 c1 c2 c3 c4 c5 c6 c7 c8 c9 c10 c11 c12) w h (by decide) (by decide) (show 1 ≤ 3 by decide) (show 3 ≤ 256 by decide) (fl14 p1 p2 p3 p4 p5 p6 p7 p8 p9 p10 p11 p12 c1 c2 c3 c4 c5 c6 c7 c8 c9 c10 c11 c12).box (fl14 p1 p2 p3 p4 p5 p6 p7 p8 p9 p10 p11 p12 c1 c2 c3 c4 c5 c6 c7 c8 c9 c10 c11 c12).tm (Nat.le_refl 3) (fun i x y _ hx hy=>(fl14 p1 p2 p3 p4 p5 p6 p7 p8 p9 p10 p11 p12 c1 c2 c3 c4 c5 c6 c7 c8 c9 c10 c11 c12).con i x y hx hy) (fun h=>absurd h (Nat.lt_irrefl 3)) true rfl
theorem KV4x (p1 p2 p3 p4 p5 p6 p7 p8 p9 p10 p11 p12 c1 c2 c3 c4 c5 c6 c7 c8 c9 c10 c11 c12:Nat) (X:Nat) (w:World) (hI:Blk w X (.cells #[.int .i64 0,.int .i64 65536,.slice (some ⟨p1,0,none⟩) 1 c1,.slice (some ⟨p2,0,none⟩) 1 c2,.slice (some ⟨p3,0,none⟩) 1 c3,.slice (some ⟨p4,0,none⟩) 1 c4,.int .i64 131072,.int .i64 65536,.slice (some ⟨p9,0,none⟩) 1 c9,.slice (some ⟨p10,0,none⟩) 1 c10,.slice (some ⟨p11,0,none⟩) 1 c11,.slice (some ⟨p12,0,none⟩) 1 c12] 39)) (v1:Vx w (.slice (some ⟨p1,0,none⟩) 1 c1) [(0,0)]) (v2:Vx w (.slice (some ⟨p2,0,none⟩) 1 c2) [(0,65536)]) (v3:Vx w (.slice (some ⟨p3,0,none⟩) 1 c3) [(0,65536)]) (v4:Vx w (.slice (some ⟨p4,0,none⟩) 1 c4) [(65536,65536)])
  (v9:Vx w (.slice (some ⟨p9,0,none⟩) 1 c9) [(131072,131072)]) (v10:Vx w (.slice (some ⟨p10,0,none⟩) 1 c10) [(131072,196608)]) (v11:Vx w (.slice (some ⟨p11,0,none⟩) 1 c11) [(131072,196608)]) (v12:Vx w (.slice (some ⟨p12,0,none⟩) 1 c12) [(196608,196608)]) :
  Calls Tryz.prog 23 #[.slice (some ⟨X,0,none⟩) 2 2] w fun e w'=>e = .returned (.bool false)∧Below w.heap.size w w' :=
 Valid_ok (some ⟨X,0,none⟩) 2 1 1 [sg3 0 p1 p2 p3 p4 c1 c2 c3 c4,sg3 2 p9 p10 p11 p12 c9 c10 c11 c12] w ⟨rx_blk (n:=2) (l:=[sg3 0 p1 p2 p3 p4 c1 c2 c3 c4,sg3 2 p9 p10 p11 p12 c9 c10 c11 c12]) encSr_len hI rfl rfl (by unfold maxLen; simp),fun x hx=>by
   simp only [List.mem_cons,List.not_mem_nil,or_false] at hx
   rcases hx with rfl | rfl
   ·exact ⟨v1,v2,v3,v4⟩
   ·exact ⟨v9,v10,v11,v12⟩⟩ (by decide) (by decide) (show 1 ≤ 2 by decide) (show 2 ≤ 256 by decide) (fun x hx=>by
   simp only [List.mem_cons,List.not_mem_nil,or_false] at hx
   rcases hx with rfl | rfl <;> exact sg3_box (by decide) (by decide) _ _ _ _ _ _ _ _) (fun x hx=>by
   simp only [List.mem_cons,List.not_mem_nil,or_false] at hx
   rcases hx with rfl | rfl <;> exact sg3_tm (by decide) (by decide) _ _ _ _ _ _ _ _) (show 1 ≤ 2 by decide) (fun i x y hi=>by omega) (fun _=>⟨by decide,fun i x y hi hx hy=>by
   obtain rfl:i = 0:=by omega
   obtain rfl:sg3 0 p1 p2 p3 p4 c1 c2 c3 c4 = x:=by simpa using hx
   obtain rfl:sg3 2 p9 p10 p11 p12 c9 c10 c11 c12 = y:=by simpa using hy
   show (2 * 65536:Int) ≠ 0 * 65536+65536
   decide⟩) false rfl
theorem KSTx (w:World):Calls Tryz.prog 26 #[.int .i64 65536] w fun e w'=>∃ a b,e = .returned (.agg #[.int .i64 1,.slice (some ⟨a,0,none⟩) 1 1,.slice (some ⟨b,0,none⟩) 1 1])∧Ix w' (.slice (some ⟨a,0,none⟩) 1 1) [⟨1,0,0,65536,65536⟩]∧Px w' (.slice (some ⟨b,0,none⟩) 1 1) [0]∧Below w.heap.size w w':=steady14 65536 w (by decide) (by decide)
theorem KCOx (w:World):Calls Tryz.prog 55 #[.int .u8 0] w fun e w'=>e = .returned (.agg #[.int .i64 1,.int .i64 4096,.int .i64 1024,.int .i64 16384,.int .i64 16777216])∧Below w.heap.size w w':=control14 0 w (by decide) (by decide)
theorem KINx (a b p c:Nat) (w:World) (ha:Ix w (.slice (some ⟨a,0,none⟩) 1 1) [⟨1,0,0,65536,65536⟩]) (hb:Px w (.slice (some ⟨b,0,none⟩) 1 1) [0]) (hc:Vx w (.slice (some ⟨p,0,none⟩) 1 c) [(0,0)]):Calls Tryz.prog 19 #[.agg #[.int .i64 1,.slice (some ⟨a,0,none⟩) 1 1,.slice (some ⟨b,0,none⟩) 1 1],.slice (some ⟨p,0,none⟩) 1 c,.agg #[.int .i64 1,.int .i64 4096,.int .i64 1024,.int .i64 16384,.int .i64 16777216,.int .i64 0,.int .i64 3000]] w fun e w'=>∃ q d x,e = .returned (.tuple #[.slice q 1 d,.int .i64 0])∧OneF w.heap.size w' (.slice q 1 d) x∧(x.t = 0∧x.h = 3000∧x.F = [(0,0)]∧x.P = [(0,3000)]∧x.U = [(0,3000)]∧x.E = [(3000,3000)])∧Below w.heap.size w w' :=
  int_one 1 0 3000 3000 4096 1024 16384 16777216 1 (.slice (some ⟨a,0,none⟩) 1 1) (.slice (some ⟨b,0,none⟩) 1 1) (.slice (some ⟨p,0,none⟩) 1 c) [⟨1,0,0,65536,65536⟩] [0] [(0,0)] [(0,3000)] [(0,3000)] [(3000,3000)] w ha hb hc tv14a nm14 rfl (vi14 (by decide) (by decide) (by decide)) (by decide) (by decide) (by decide) (by decide) (by decide) (by decide) (by decide) (by decide) (by decide) (by decide) (by decide) ⟨by decide,by decide⟩ adv14
theorem KIEx (a b p c:Nat) (w:World):Calls Tryz.prog 19 #[.agg #[.int .i64 1,.slice (some ⟨a,0,none⟩) 1 1,.slice (some ⟨b,0,none⟩) 1 1],.slice (some ⟨p,0,none⟩) 1 c,.agg #[.int .i64 1,.int .i64 4096,.int .i64 1024,.int .i64 16384,.int .i64 16777216,.int .i64 5,.int .i64 5]] w fun e w'=>e = .returned (.tuple #[.slice none 0 0,.int .i64 1])∧Below w.heap.size w w' :=
  int_err 1 1 4096 1024 16384 16777216 5 5 (.slice (some ⟨a,0,none⟩) 1 1) (.slice (some ⟨b,0,none⟩) 1 1) (.slice (some ⟨p,0,none⟩) 1 c) w (.inr (.inr (.inr (by decide))))
theorem KSMx (v u:Value) (k:List (Int × Int)) (w:World) (h1:Vx w v k) (h2:Vx w u k):Calls Tryz.prog 24 #[v,u] w fun e w'=>e = .returned (.bool true)∧Below w.heap.size w w':=by
 have:=r3same v u k k w (vx_bx h1) (vx_bx h2)
 rwa [show decide (k = k) = true from decide_eq_true rfl] at this
theorem KR2x (w:World):Calls Tryz.prog 56 #[.agg #[.int .i64 65536,.int .i64 131072],.agg #[.int .i64 65536,.int .i64 131072]] w fun e w'=>e = .returned (.bool true)∧Below w.heap.size w w':=r2same 65536 131072 65536 131072 w
theorem KP9x (w:World):Calls Tryz.prog 30 #[.int .i64 196609] w fun e w'=>e = .returned (.agg #[.int .i64 196609,.int .i64 196609])∧Below w.heap.size w w':=point_at 196609 w (by decide) (by decide)
theorem zx14 (p1 p2 p3 p4 p5 p6 p7 p8 p9 p10 p11 p12 c1 c2 c3 c4 c5 c6 c7 c8 c9 c10 c11 c12:Nat) {w:World}:Zx (w.alloc (.cells #[.int .i64 0,.int .i64 65536,.slice (some ⟨p1,0,none⟩) 1 c1,.slice (some ⟨p2,0,none⟩) 1 c2,.slice (some ⟨p3,0,none⟩) 1 c3,.slice (some ⟨p4,0,none⟩) 1 c4,.int .i64 65536,.int .i64 65536,.slice (some ⟨p5,0,none⟩) 1 c5,.slice (some ⟨p6,0,none⟩) 1 c6,.slice (some ⟨p7,0,none⟩) 1 c7,.slice (some ⟨p8,0,none⟩) 1 c8,.int .i64 131072,.int .i64 65536,.slice (some ⟨p9,0,none⟩) 1 c9,.slice (some ⟨p10,0,none⟩) 1 c10,.slice (some ⟨p11,0,none⟩) 1 c11,.slice (some ⟨p12,0,none⟩) 1 c12] 39)) (.slice (some ⟨w.heap.size,0,none⟩) 3 3) (l3 p1 p2 p3 p4 p5 p6 p7 p8 p9 p10 p11 p12 c1 c2 c3 c4 c5 c6 c7 c8 c9 c10 c11 c12):=Rx.cells encSr_len w (l3 p1 p2 p3 p4 p5 p6 p7 p8 p9 p10 p11 p12 c1 c2 c3 c4 c5 c6 c7 c8 c9 c10 c11 c12) 39 (by show 3 ≤ maxLen; unfold maxLen; decide)
set_option maxHeartbeats 64000000 in
theorem sanity14 (w:World):Calls Tryz.prog 17 #[] w fun e w'=>e = .returned (.bool true)∧Below w.heap.size w w':=by
 have HW:=Lib.hid (Below.refl w.heap.size w)
 have KP0:Hid (∀ w,Calls Tryz.prog 53 #[.int .i64 0] w fun e w'=>∃ p c,e = .returned (.slice (some ⟨p,0,none⟩) 1 c)∧Vx w' (.slice (some ⟨p,0,none⟩) 1 c) [(0,0)]∧w.heap.size ≤ p∧Below w.heap.size w w'):=Lib.hid (fun w=>point14 0 w (by decide) (by decide))
 have KP1:Hid (∀ w,Calls Tryz.prog 53 #[.int .i64 1] w fun e w'=>∃ p c,e = .returned (.slice (some ⟨p,0,none⟩) 1 c)∧Vx w' (.slice (some ⟨p,0,none⟩) 1 c) [(65536,65536)]∧w.heap.size ≤ p∧Below w.heap.size w w'):=Lib.hid (fun w=>point14 1 w (by decide) (by decide))
 have KP2:Hid (∀ w,Calls Tryz.prog 53 #[.int .i64 2] w fun e w'=>∃ p c,e = .returned (.slice (some ⟨p,0,none⟩) 1 c)∧Vx w' (.slice (some ⟨p,0,none⟩) 1 c) [(131072,131072)]∧w.heap.size ≤ p∧Below w.heap.size w w'):=Lib.hid (fun w=>point14 2 w (by decide) (by decide))
 have KP3:Hid (∀ w,Calls Tryz.prog 53 #[.int .i64 3] w fun e w'=>∃ p c,e = .returned (.slice (some ⟨p,0,none⟩) 1 c)∧Vx w' (.slice (some ⟨p,0,none⟩) 1 c) [(196608,196608)]∧w.heap.size ≤ p∧Below w.heap.size w w'):=Lib.hid (fun w=>point14 3 w (by decide) (by decide))
 have KS01:Hid (∀ w,Calls Tryz.prog 54 #[.int .i64 0,.int .i64 1] w fun e w'=>∃ p c,e = .returned (.slice (some ⟨p,0,none⟩) 1 c)∧Vx w' (.slice (some ⟨p,0,none⟩) 1 c) [(0,65536)]∧w.heap.size ≤ p∧Below w.heap.size w w'):=Lib.hid (fun w=>span14 0 1 w (by decide) (by decide) (by decide) (by decide))
 have KS12:Hid (∀ w,Calls Tryz.prog 54 #[.int .i64 1,.int .i64 2] w fun e w'=>∃ p c,e = .returned (.slice (some ⟨p,0,none⟩) 1 c)∧Vx w' (.slice (some ⟨p,0,none⟩) 1 c) [(65536,131072)]∧w.heap.size ≤ p∧Below w.heap.size w w'):=Lib.hid (fun w=>span14 1 2 w (by decide) (by decide) (by decide) (by decide))
 have KS23:Hid (∀ w,Calls Tryz.prog 54 #[.int .i64 2,.int .i64 3] w fun e w'=>∃ p c,e = .returned (.slice (some ⟨p,0,none⟩) 1 c)∧Vx w' (.slice (some ⟨p,0,none⟩) 1 c) [(131072,196608)]∧w.heap.size ≤ p∧Below w.heap.size w w'):=Lib.hid (fun w=>span14 2 3 w (by decide) (by decide) (by decide) (by decide))
 have KS02:Hid (∀ w,Calls Tryz.prog 54 #[.int .i64 0,.int .i64 2] w fun e w'=>∃ p c,e = .returned (.slice (some ⟨p,0,none⟩) 1 c)∧Vx w' (.slice (some ⟨p,0,none⟩) 1 c) [(0,131072)]∧w.heap.size ≤ p∧Below w.heap.size w w'):=Lib.hid (fun w=>span14 0 2 w (by decide) (by decide) (by decide) (by decide))
 go_enter Tryz.func17,Tryz.ntmps17
 go_wp2_with (fail)
 refine (KP0.out _).mono ?_
 rintro e w1 ⟨p1,c1,rfl,hv,-,hB⟩
 have HW:=Lib.hid (below_then HW.out hB)
 clear hB
 have V1:=Lib.hid hv
 clear hv
 go_wp2_with (fail)
 refine (KS01.out _).mono ?_
 rintro e w2 ⟨p2,c2,rfl,hv,-,hB⟩
 have V1:=Lib.hid (V1.out.grow hB)
 have HW:=Lib.hid (below_then HW.out hB)
 clear hB
 have V2:=Lib.hid hv
 clear hv
 go_wp2_with (fail)
 refine (KS01.out _).mono ?_
 rintro e w3 ⟨p3,c3,rfl,hv,-,hB⟩
 have V1:=Lib.hid (V1.out.grow hB)
 have V2:=Lib.hid (V2.out.grow hB)
 have HW:=Lib.hid (below_then HW.out hB)
 clear hB
 have V3:=Lib.hid hv
 clear hv
 go_wp2_with (fail)
 refine (KP1.out _).mono ?_
 rintro e w4 ⟨p4,c4,rfl,hv,-,hB⟩
 have V1:=Lib.hid (V1.out.grow hB)
 have V2:=Lib.hid (V2.out.grow hB)
 have V3:=Lib.hid (V3.out.grow hB)
 have HW:=Lib.hid (below_then HW.out hB)
 clear hB
 have V4:=Lib.hid hv
 clear hv
 go_wp2_with (fail)
 refine (KP1.out _).mono ?_
 rintro e w5 ⟨p5,c5,rfl,hv,-,hB⟩
 have V1:=Lib.hid (V1.out.grow hB)
 have V2:=Lib.hid (V2.out.grow hB)
 have V3:=Lib.hid (V3.out.grow hB)
 have V4:=Lib.hid (V4.out.grow hB)
 have HW:=Lib.hid (below_then HW.out hB)
 clear hB
 have V5:=Lib.hid hv
 clear hv
 go_wp2_with (fail)
 refine (KS12.out _).mono ?_
 rintro e w6 ⟨p6,c6,rfl,hv,-,hB⟩
 have V1:=Lib.hid (V1.out.grow hB)
 have V2:=Lib.hid (V2.out.grow hB)
 have V3:=Lib.hid (V3.out.grow hB)
 have V4:=Lib.hid (V4.out.grow hB)
 have V5:=Lib.hid (V5.out.grow hB)
 have HW:=Lib.hid (below_then HW.out hB)
 clear hB
 have V6:=Lib.hid hv
 clear hv
 go_wp2_with (fail)
 refine (KS12.out _).mono ?_
 rintro e w7 ⟨p7,c7,rfl,hv,-,hB⟩
 have V1:=Lib.hid (V1.out.grow hB)
 have V2:=Lib.hid (V2.out.grow hB)
 have V3:=Lib.hid (V3.out.grow hB)
 have V4:=Lib.hid (V4.out.grow hB)
 have V5:=Lib.hid (V5.out.grow hB)
 have V6:=Lib.hid (V6.out.grow hB)
 have HW:=Lib.hid (below_then HW.out hB)
 clear hB
 have V7:=Lib.hid hv
 clear hv
 go_wp2_with (fail)
 refine (KP2.out _).mono ?_
 rintro e w8 ⟨p8,c8,rfl,hv,-,hB⟩
 have V1:=Lib.hid (V1.out.grow hB)
 have V2:=Lib.hid (V2.out.grow hB)
 have V3:=Lib.hid (V3.out.grow hB)
 have V4:=Lib.hid (V4.out.grow hB)
 have V5:=Lib.hid (V5.out.grow hB)
 have V6:=Lib.hid (V6.out.grow hB)
 have V7:=Lib.hid (V7.out.grow hB)
 have HW:=Lib.hid (below_then HW.out hB)
 clear hB
 have V8:=Lib.hid hv
 clear hv
 go_wp2_with (fail)
 refine (KP2.out _).mono ?_
 rintro e w9 ⟨p9,c9,rfl,hv,-,hB⟩
 have V1:=Lib.hid (V1.out.grow hB)
 have V2:=Lib.hid (V2.out.grow hB)
 have V3:=Lib.hid (V3.out.grow hB)
 have V4:=Lib.hid (V4.out.grow hB)
 have V5:=Lib.hid (V5.out.grow hB)
 have V6:=Lib.hid (V6.out.grow hB)
 have V7:=Lib.hid (V7.out.grow hB)
 have V8:=Lib.hid (V8.out.grow hB)
 have HW:=Lib.hid (below_then HW.out hB)
 clear hB
 have V9:=Lib.hid hv
 clear hv
 go_wp2_with (fail)
 refine (KS23.out _).mono ?_
 rintro e w10 ⟨p10,c10,rfl,hv,-,hB⟩
 have V1:=Lib.hid (V1.out.grow hB)
 have V2:=Lib.hid (V2.out.grow hB)
 have V3:=Lib.hid (V3.out.grow hB)
 have V4:=Lib.hid (V4.out.grow hB)
 have V5:=Lib.hid (V5.out.grow hB)
 have V6:=Lib.hid (V6.out.grow hB)
 have V7:=Lib.hid (V7.out.grow hB)
 have V8:=Lib.hid (V8.out.grow hB)
 have V9:=Lib.hid (V9.out.grow hB)
 have HW:=Lib.hid (below_then HW.out hB)
 clear hB
 have V10:=Lib.hid hv
 clear hv
 go_wp2_with (fail)
 refine (KS23.out _).mono ?_
 rintro e w11 ⟨p11,c11,rfl,hv,-,hB⟩
 have V1:=Lib.hid (V1.out.grow hB)
 have V2:=Lib.hid (V2.out.grow hB)
 have V3:=Lib.hid (V3.out.grow hB)
 have V4:=Lib.hid (V4.out.grow hB)
 have V5:=Lib.hid (V5.out.grow hB)
 have V6:=Lib.hid (V6.out.grow hB)
 have V7:=Lib.hid (V7.out.grow hB)
 have V8:=Lib.hid (V8.out.grow hB)
 have V9:=Lib.hid (V9.out.grow hB)
 have V10:=Lib.hid (V10.out.grow hB)
 have HW:=Lib.hid (below_then HW.out hB)
 clear hB
 have V11:=Lib.hid hv
 clear hv
 go_wp2_with (fail)
 refine (KP3.out _).mono ?_
 rintro e w12 ⟨p12,c12,rfl,hv,-,hB⟩
 have V1:=Lib.hid (V1.out.grow hB)
 have V2:=Lib.hid (V2.out.grow hB)
 have V3:=Lib.hid (V3.out.grow hB)
 have V4:=Lib.hid (V4.out.grow hB)
 have V5:=Lib.hid (V5.out.grow hB)
 have V6:=Lib.hid (V6.out.grow hB)
 have V7:=Lib.hid (V7.out.grow hB)
 have V8:=Lib.hid (V8.out.grow hB)
 have V9:=Lib.hid (V9.out.grow hB)
 have V10:=Lib.hid (V10.out.grow hB)
 have V11:=Lib.hid (V11.out.grow hB)
 have HW:=Lib.hid (below_then HW.out hB)
 clear hB
 have V12:=Lib.hid hv
 clear hv
 obtain ⟨W1,hW1⟩:∃ W1,w12.alloc (.cells #[.int .i64 0,.int .i64 65536,.slice (some ⟨p1,0,none⟩) 1 c1,.slice (some ⟨p2,0,none⟩) 1 c2,.slice (some ⟨p3,0,none⟩) 1 c3,.slice (some ⟨p4,0,none⟩) 1 c4,.int .i64 65536,.int .i64 65536,.slice (some ⟨p5,0,none⟩) 1 c5,.slice (some ⟨p6,0,none⟩) 1 c6,.slice (some ⟨p7,0,none⟩) 1 c7,.slice (some ⟨p8,0,none⟩) 1 c8,.int .i64 131072,.int .i64 65536,.slice (some ⟨p9,0,none⟩) 1 c9,.slice (some ⟨p10,0,none⟩) 1 c10,.slice (some ⟨p11,0,none⟩) 1 c11,.slice (some ⟨p12,0,none⟩) 1 c12] 39) = W1:=⟨_,rfl⟩
 have hb1:Below w12.heap.size w12 W1:=by rw [← hW1]; exact (Below.refl _ _).alloc (Nat.le_refl _) _
 have hz1:Zx W1 (.slice (some ⟨w12.heap.size,0,none⟩) 3 3) (l3 p1 p2 p3 p4 p5 p6 p7 p8 p9 p10 p11 p12 c1 c2 c3 c4 c5 c6 c7 c8 c9 c10 c11 c12):=by rw [← hW1]; exact zx14 p1 p2 p3 p4 p5 p6 p7 p8 p9 p10 p11 p12 c1 c2 c3 c4 c5 c6 c7 c8 c9 c10 c11 c12
 have hk1:Blk W1 w12.heap.size (.cells #[.int .i64 0,.int .i64 65536,.slice (some ⟨p1,0,none⟩) 1 c1,.slice (some ⟨p2,0,none⟩) 1 c2,.slice (some ⟨p3,0,none⟩) 1 c3,.slice (some ⟨p4,0,none⟩) 1 c4,.int .i64 65536,.int .i64 65536,.slice (some ⟨p5,0,none⟩) 1 c5,.slice (some ⟨p6,0,none⟩) 1 c6,.slice (some ⟨p7,0,none⟩) 1 c7,.slice (some ⟨p8,0,none⟩) 1 c8,.int .i64 131072,.int .i64 65536,.slice (some ⟨p9,0,none⟩) 1 c9,.slice (some ⟨p10,0,none⟩) 1 c10,.slice (some ⟨p11,0,none⟩) 1 c11,.slice (some ⟨p12,0,none⟩) 1 c12] 39):=by rw [← hW1]; exact World.alloc_heap_new w12 _
 have hB:=hb1
 have V1:=Lib.hid (V1.out.grow hB)
 have V2:=Lib.hid (V2.out.grow hB)
 have V3:=Lib.hid (V3.out.grow hB)
 have V4:=Lib.hid (V4.out.grow hB)
 have V5:=Lib.hid (V5.out.grow hB)
 have V6:=Lib.hid (V6.out.grow hB)
 have V7:=Lib.hid (V7.out.grow hB)
 have V8:=Lib.hid (V8.out.grow hB)
 have V9:=Lib.hid (V9.out.grow hB)
 have V10:=Lib.hid (V10.out.grow hB)
 have V11:=Lib.hid (V11.out.grow hB)
 have V12:=Lib.hid (V12.out.grow hB)
 have HW:=Lib.hid (below_then HW.out hB)
 clear hB
 obtain ⟨G,hG⟩:∃ G,w12.heap.size = G:=⟨_,rfl⟩
 have HF:Hid (Fx W1 (.slice (some ⟨G,0,none⟩) 3 3) (l3 p1 p2 p3 p4 p5 p6 p7 p8 p9 p10 p11 p12 c1 c2 c3 c4 c5 c6 c7 c8 c9 c10 c11 c12)):=Lib.hid ⟨by rw [← hG]; exact hz1,fun x hx=>by
  simp only [l3,List.mem_cons,List.not_mem_nil,or_false] at hx
  rcases hx with rfl | rfl | rfl
  ·exact ⟨V1.out,V2.out,V3.out,V4.out⟩
  ·exact ⟨V5.out,V6.out,V7.out,V8.out⟩
  ·exact ⟨V9.out,V10.out,V11.out,V12.out⟩⟩
 have HBK:Hid (Blk W1 G (.cells #[.int .i64 0,.int .i64 65536,.slice (some ⟨p1,0,none⟩) 1 c1,.slice (some ⟨p2,0,none⟩) 1 c2,.slice (some ⟨p3,0,none⟩) 1 c3,.slice (some ⟨p4,0,none⟩) 1 c4,.int .i64 65536,.int .i64 65536,.slice (some ⟨p5,0,none⟩) 1 c5,.slice (some ⟨p6,0,none⟩) 1 c6,.slice (some ⟨p7,0,none⟩) 1 c7,.slice (some ⟨p8,0,none⟩) 1 c8,.int .i64 131072,.int .i64 65536,.slice (some ⟨p9,0,none⟩) 1 c9,.slice (some ⟨p10,0,none⟩) 1 c10,.slice (some ⟨p11,0,none⟩) 1 c11,.slice (some ⟨p12,0,none⟩) 1 c12] 39)):=Lib.hid (by rw [← hG]; exact hk1)
 clear hz1 hk1 hb1
 go_wp2_with (fail)
 refine (KA1x p1 p2 p3 p4 p5 p6 p7 p8 p9 p10 p11 p12 c1 c2 c3 c4 c5 c6 c7 c8 c9 c10 c11 c12 G _ HF.out).mono ?_
 rintro e w13 ⟨qa,da,rfl,hv,hB⟩
 have V1:=Lib.hid (V1.out.grow hB)
 have V2:=Lib.hid (V2.out.grow hB)
 have V3:=Lib.hid (V3.out.grow hB)
 have V4:=Lib.hid (V4.out.grow hB)
 have V5:=Lib.hid (V5.out.grow hB)
 have V6:=Lib.hid (V6.out.grow hB)
 have V7:=Lib.hid (V7.out.grow hB)
 have V8:=Lib.hid (V8.out.grow hB)
 have V9:=Lib.hid (V9.out.grow hB)
 have V10:=Lib.hid (V10.out.grow hB)
 have V11:=Lib.hid (V11.out.grow hB)
 have V12:=Lib.hid (V12.out.grow hB)
 have HF:=Lib.hid (HF.out.grow hB)
 have HBK:=Lib.hid (HBK.out.grow hB)
 have HW:=Lib.hid (below_then HW.out hB)
 clear hB
 have VA:=Lib.hid hv
 clear hv
 go_wp2_with (fail)
 refine (KD1x p1 p2 p3 p4 p5 p6 p7 p8 p9 p10 p11 p12 c1 c2 c3 c4 c5 c6 c7 c8 c9 c10 c11 c12 G _ HF.out).mono ?_
 rintro e w14 ⟨qb,db,rfl,hv,hB⟩
 have V1:=Lib.hid (V1.out.grow hB)
 have V2:=Lib.hid (V2.out.grow hB)
 have V3:=Lib.hid (V3.out.grow hB)
 have V4:=Lib.hid (V4.out.grow hB)
 have V5:=Lib.hid (V5.out.grow hB)
 have V6:=Lib.hid (V6.out.grow hB)
 have V7:=Lib.hid (V7.out.grow hB)
 have V8:=Lib.hid (V8.out.grow hB)
 have V9:=Lib.hid (V9.out.grow hB)
 have V10:=Lib.hid (V10.out.grow hB)
 have V11:=Lib.hid (V11.out.grow hB)
 have V12:=Lib.hid (V12.out.grow hB)
 have HF:=Lib.hid (HF.out.grow hB)
 have HBK:=Lib.hid (HBK.out.grow hB)
 have VA:=Lib.hid (VA.out.grow hB)
 have HW:=Lib.hid (below_then HW.out hB)
 clear hB
 have VB:=Lib.hid hv
 clear hv
 go_wp2_with (fail)
 refine (KE1x p1 p2 p3 p4 p5 p6 p7 p8 p9 p10 p11 p12 c1 c2 c3 c4 c5 c6 c7 c8 c9 c10 c11 c12 G _ HF.out).mono ?_
 rintro e w15 ⟨qc,dc,rfl,hv,hB⟩
 have V1:=Lib.hid (V1.out.grow hB)
 have V2:=Lib.hid (V2.out.grow hB)
 have V3:=Lib.hid (V3.out.grow hB)
 have V4:=Lib.hid (V4.out.grow hB)
 have V5:=Lib.hid (V5.out.grow hB)
 have V6:=Lib.hid (V6.out.grow hB)
 have V7:=Lib.hid (V7.out.grow hB)
 have V8:=Lib.hid (V8.out.grow hB)
 have V9:=Lib.hid (V9.out.grow hB)
 have V10:=Lib.hid (V10.out.grow hB)
 have V11:=Lib.hid (V11.out.grow hB)
 have V12:=Lib.hid (V12.out.grow hB)
 have HF:=Lib.hid (HF.out.grow hB)
 have HBK:=Lib.hid (HBK.out.grow hB)
 have VA:=Lib.hid (VA.out.grow hB)
 have VB:=Lib.hid (VB.out.grow hB)
 have HW:=Lib.hid (below_then HW.out hB)
 clear hB
 have VC:=Lib.hid hv
 clear hv
 go_wp2_with (fail)
 refine (KA2x p1 p2 p3 p4 p5 p6 p7 p8 p9 p10 p11 p12 c1 c2 c3 c4 c5 c6 c7 c8 c9 c10 c11 c12 G _ HF.out).mono ?_
 rintro e w16 ⟨qd,dd,rfl,hv,hB⟩
 have V1:=Lib.hid (V1.out.grow hB)
 have V2:=Lib.hid (V2.out.grow hB)
 have V3:=Lib.hid (V3.out.grow hB)
 have V4:=Lib.hid (V4.out.grow hB)
 have V5:=Lib.hid (V5.out.grow hB)
 have V6:=Lib.hid (V6.out.grow hB)
 have V7:=Lib.hid (V7.out.grow hB)
 have V8:=Lib.hid (V8.out.grow hB)
 have V9:=Lib.hid (V9.out.grow hB)
 have V10:=Lib.hid (V10.out.grow hB)
 have V11:=Lib.hid (V11.out.grow hB)
 have V12:=Lib.hid (V12.out.grow hB)
 have HF:=Lib.hid (HF.out.grow hB)
 have HBK:=Lib.hid (HBK.out.grow hB)
 have VA:=Lib.hid (VA.out.grow hB)
 have VB:=Lib.hid (VB.out.grow hB)
 have VC:=Lib.hid (VC.out.grow hB)
 have HW:=Lib.hid (below_then HW.out hB)
 clear hB
 have VD:=Lib.hid hv
 clear hv
 go_wp2_with (fail)
 refine (KA3x p1 p2 p3 p4 p5 p6 p7 p8 p9 p10 p11 p12 c1 c2 c3 c4 c5 c6 c7 c8 c9 c10 c11 c12 G _ HF.out).mono ?_
 rintro e w17 ⟨qe,de,rfl,hv,hB⟩
 have V1:=Lib.hid (V1.out.grow hB)
 have V2:=Lib.hid (V2.out.grow hB)
 have V3:=Lib.hid (V3.out.grow hB)
 have V4:=Lib.hid (V4.out.grow hB)
 have V5:=Lib.hid (V5.out.grow hB)
 have V6:=Lib.hid (V6.out.grow hB)
 have V7:=Lib.hid (V7.out.grow hB)
 have V8:=Lib.hid (V8.out.grow hB)
 have V9:=Lib.hid (V9.out.grow hB)
 have V10:=Lib.hid (V10.out.grow hB)
 have V11:=Lib.hid (V11.out.grow hB)
 have V12:=Lib.hid (V12.out.grow hB)
 have HF:=Lib.hid (HF.out.grow hB)
 have HBK:=Lib.hid (HBK.out.grow hB)
 have VA:=Lib.hid (VA.out.grow hB)
 have VB:=Lib.hid (VB.out.grow hB)
 have VC:=Lib.hid (VC.out.grow hB)
 have VD:=Lib.hid (VD.out.grow hB)
 have HW:=Lib.hid (below_then HW.out hB)
 clear hB
 have VE:=Lib.hid hv
 clear hv
 go_wp2_with (fail)
 refine (KA4x p1 p2 p3 p4 p5 p6 p7 p8 p9 p10 p11 p12 c1 c2 c3 c4 c5 c6 c7 c8 c9 c10 c11 c12 G _ HF.out).mono ?_
 rintro e w18 ⟨rfl,hB⟩
 have V1:=Lib.hid (V1.out.grow hB)
 have V2:=Lib.hid (V2.out.grow hB)
 have V3:=Lib.hid (V3.out.grow hB)
 have V4:=Lib.hid (V4.out.grow hB)
 have V5:=Lib.hid (V5.out.grow hB)
 have V6:=Lib.hid (V6.out.grow hB)
 have V7:=Lib.hid (V7.out.grow hB)
 have V8:=Lib.hid (V8.out.grow hB)
 have V9:=Lib.hid (V9.out.grow hB)
 have V10:=Lib.hid (V10.out.grow hB)
 have V11:=Lib.hid (V11.out.grow hB)
 have V12:=Lib.hid (V12.out.grow hB)
 have HF:=Lib.hid (HF.out.grow hB)
 have HBK:=Lib.hid (HBK.out.grow hB)
 have VA:=Lib.hid (VA.out.grow hB)
 have VB:=Lib.hid (VB.out.grow hB)
 have VC:=Lib.hid (VC.out.grow hB)
 have VD:=Lib.hid (VD.out.grow hB)
 have VE:=Lib.hid (VE.out.grow hB)
 have HW:=Lib.hid (below_then HW.out hB)
 clear hB
 go_wp2_with (fail)
 refine (KP9x _).mono ?_
 rintro e w19 ⟨rfl,hB⟩
 have V1:=Lib.hid (V1.out.grow hB)
 have V2:=Lib.hid (V2.out.grow hB)
 have V3:=Lib.hid (V3.out.grow hB)
 have V4:=Lib.hid (V4.out.grow hB)
 have V5:=Lib.hid (V5.out.grow hB)
 have V6:=Lib.hid (V6.out.grow hB)
 have V7:=Lib.hid (V7.out.grow hB)
 have V8:=Lib.hid (V8.out.grow hB)
 have V9:=Lib.hid (V9.out.grow hB)
 have V10:=Lib.hid (V10.out.grow hB)
 have V11:=Lib.hid (V11.out.grow hB)
 have V12:=Lib.hid (V12.out.grow hB)
 have HF:=Lib.hid (HF.out.grow hB)
 have HBK:=Lib.hid (HBK.out.grow hB)
 have VA:=Lib.hid (VA.out.grow hB)
 have VB:=Lib.hid (VB.out.grow hB)
 have VC:=Lib.hid (VC.out.grow hB)
 have VD:=Lib.hid (VD.out.grow hB)
 have VE:=Lib.hid (VE.out.grow hB)
 have HW:=Lib.hid (below_then HW.out hB)
 clear hB
 go_wp2_with (fail)
 refine (KD2x p1 p2 p3 p4 p5 p6 p7 p8 p9 p10 p11 p12 c1 c2 c3 c4 c5 c6 c7 c8 c9 c10 c11 c12 G _ HF.out).mono ?_
 rintro e w20 ⟨rfl,hB⟩
 have V1:=Lib.hid (V1.out.grow hB)
 have V2:=Lib.hid (V2.out.grow hB)
 have V3:=Lib.hid (V3.out.grow hB)
 have V4:=Lib.hid (V4.out.grow hB)
 have V5:=Lib.hid (V5.out.grow hB)
 have V6:=Lib.hid (V6.out.grow hB)
 have V7:=Lib.hid (V7.out.grow hB)
 have V8:=Lib.hid (V8.out.grow hB)
 have V9:=Lib.hid (V9.out.grow hB)
 have V10:=Lib.hid (V10.out.grow hB)
 have V11:=Lib.hid (V11.out.grow hB)
 have V12:=Lib.hid (V12.out.grow hB)
 have HF:=Lib.hid (HF.out.grow hB)
 have HBK:=Lib.hid (HBK.out.grow hB)
 have VA:=Lib.hid (VA.out.grow hB)
 have VB:=Lib.hid (VB.out.grow hB)
 have VC:=Lib.hid (VC.out.grow hB)
 have VD:=Lib.hid (VD.out.grow hB)
 have VE:=Lib.hid (VE.out.grow hB)
 have HW:=Lib.hid (below_then HW.out hB)
 clear hB
 go_wp2_with (fail)
 refine (KI1x p1 p2 p3 p4 p5 p6 p7 p8 p9 p10 p11 p12 c1 c2 c3 c4 c5 c6 c7 c8 c9 c10 c11 c12 G _ HF.out).mono ?_
 rintro e w21 ⟨gi,di,rfl,hit,hB⟩
 have HIT:=Lib.hid hit
 clear hit
 have HBI:=Lib.hid (Below.refl w21.heap.size w21)
 have V1:=Lib.hid (V1.out.grow hB)
 have V2:=Lib.hid (V2.out.grow hB)
 have V3:=Lib.hid (V3.out.grow hB)
 have V4:=Lib.hid (V4.out.grow hB)
 have V5:=Lib.hid (V5.out.grow hB)
 have V6:=Lib.hid (V6.out.grow hB)
 have V7:=Lib.hid (V7.out.grow hB)
 have V8:=Lib.hid (V8.out.grow hB)
 have V9:=Lib.hid (V9.out.grow hB)
 have V10:=Lib.hid (V10.out.grow hB)
 have V11:=Lib.hid (V11.out.grow hB)
 have V12:=Lib.hid (V12.out.grow hB)
 have HF:=Lib.hid (HF.out.grow hB)
 have HBK:=Lib.hid (HBK.out.grow hB)
 have VA:=Lib.hid (VA.out.grow hB)
 have VB:=Lib.hid (VB.out.grow hB)
 have VC:=Lib.hid (VC.out.grow hB)
 have VD:=Lib.hid (VD.out.grow hB)
 have VE:=Lib.hid (VE.out.grow hB)
 have HW:=Lib.hid (below_then HW.out hB)
 clear hB
 go_wp2_with (fail)
 refine (KSTx _).mono ?_
 rintro e w22 ⟨a1,b1,rfl,hia,hob,hB⟩
 have V1:=Lib.hid (V1.out.grow hB)
 have V2:=Lib.hid (V2.out.grow hB)
 have V3:=Lib.hid (V3.out.grow hB)
 have V4:=Lib.hid (V4.out.grow hB)
 have V5:=Lib.hid (V5.out.grow hB)
 have V6:=Lib.hid (V6.out.grow hB)
 have V7:=Lib.hid (V7.out.grow hB)
 have V8:=Lib.hid (V8.out.grow hB)
 have V9:=Lib.hid (V9.out.grow hB)
 have V10:=Lib.hid (V10.out.grow hB)
 have V11:=Lib.hid (V11.out.grow hB)
 have V12:=Lib.hid (V12.out.grow hB)
 have HF:=Lib.hid (HF.out.grow hB)
 have HBK:=Lib.hid (HBK.out.grow hB)
 have VA:=Lib.hid (VA.out.grow hB)
 have VB:=Lib.hid (VB.out.grow hB)
 have VC:=Lib.hid (VC.out.grow hB)
 have VD:=Lib.hid (VD.out.grow hB)
 have VE:=Lib.hid (VE.out.grow hB)
 have HBI:=Lib.hid (below_then HBI.out hB)
 have HW:=Lib.hid (below_then HW.out hB)
 clear hB
 have HIA:=Lib.hid hia
 have HOB:=Lib.hid hob
 clear hia hob
 go_wp2_with (fail)
 refine (KP0.out _).mono ?_
 rintro e w23 ⟨pp,cp,rfl,hv,-,hB⟩
 have V1:=Lib.hid (V1.out.grow hB)
 have V2:=Lib.hid (V2.out.grow hB)
 have V3:=Lib.hid (V3.out.grow hB)
 have V4:=Lib.hid (V4.out.grow hB)
 have V5:=Lib.hid (V5.out.grow hB)
 have V6:=Lib.hid (V6.out.grow hB)
 have V7:=Lib.hid (V7.out.grow hB)
 have V8:=Lib.hid (V8.out.grow hB)
 have V9:=Lib.hid (V9.out.grow hB)
 have V10:=Lib.hid (V10.out.grow hB)
 have V11:=Lib.hid (V11.out.grow hB)
 have V12:=Lib.hid (V12.out.grow hB)
 have HF:=Lib.hid (HF.out.grow hB)
 have HBK:=Lib.hid (HBK.out.grow hB)
 have VA:=Lib.hid (VA.out.grow hB)
 have VB:=Lib.hid (VB.out.grow hB)
 have VC:=Lib.hid (VC.out.grow hB)
 have VD:=Lib.hid (VD.out.grow hB)
 have VE:=Lib.hid (VE.out.grow hB)
 have HBI:=Lib.hid (below_then HBI.out hB)
 have HIA:=Lib.hid (HIA.out.grow hB)
 have HOB:=Lib.hid (HOB.out.grow hB)
 have HW:=Lib.hid (below_then HW.out hB)
 clear hB
 have VP:=Lib.hid hv
 clear hv
 go_wp2_with (fail)
 refine (KCOx _).mono ?_
 rintro e w24 ⟨rfl,hB⟩
 have V1:=Lib.hid (V1.out.grow hB)
 have V2:=Lib.hid (V2.out.grow hB)
 have V3:=Lib.hid (V3.out.grow hB)
 have V4:=Lib.hid (V4.out.grow hB)
 have V5:=Lib.hid (V5.out.grow hB)
 have V6:=Lib.hid (V6.out.grow hB)
 have V7:=Lib.hid (V7.out.grow hB)
 have V8:=Lib.hid (V8.out.grow hB)
 have V9:=Lib.hid (V9.out.grow hB)
 have V10:=Lib.hid (V10.out.grow hB)
 have V11:=Lib.hid (V11.out.grow hB)
 have V12:=Lib.hid (V12.out.grow hB)
 have HF:=Lib.hid (HF.out.grow hB)
 have HBK:=Lib.hid (HBK.out.grow hB)
 have VA:=Lib.hid (VA.out.grow hB)
 have VB:=Lib.hid (VB.out.grow hB)
 have VC:=Lib.hid (VC.out.grow hB)
 have VD:=Lib.hid (VD.out.grow hB)
 have VE:=Lib.hid (VE.out.grow hB)
 have HBI:=Lib.hid (below_then HBI.out hB)
 have HIA:=Lib.hid (HIA.out.grow hB)
 have HOB:=Lib.hid (HOB.out.grow hB)
 have VP:=Lib.hid (VP.out.grow hB)
 have HW:=Lib.hid (below_then HW.out hB)
 clear hB
 go_wp2_with (fail)
 refine (KINx _ _ _ _ _ HIA.out HOB.out VP.out).mono ?_
 rintro e w25 ⟨qm,dm,xm,rfl,hof,hxm,hB⟩
 have V1:=Lib.hid (V1.out.grow hB)
 have V2:=Lib.hid (V2.out.grow hB)
 have V3:=Lib.hid (V3.out.grow hB)
 have V4:=Lib.hid (V4.out.grow hB)
 have V5:=Lib.hid (V5.out.grow hB)
 have V6:=Lib.hid (V6.out.grow hB)
 have V7:=Lib.hid (V7.out.grow hB)
 have V8:=Lib.hid (V8.out.grow hB)
 have V9:=Lib.hid (V9.out.grow hB)
 have V10:=Lib.hid (V10.out.grow hB)
 have V11:=Lib.hid (V11.out.grow hB)
 have V12:=Lib.hid (V12.out.grow hB)
 have HF:=Lib.hid (HF.out.grow hB)
 have HBK:=Lib.hid (HBK.out.grow hB)
 have VA:=Lib.hid (VA.out.grow hB)
 have VB:=Lib.hid (VB.out.grow hB)
 have VC:=Lib.hid (VC.out.grow hB)
 have VD:=Lib.hid (VD.out.grow hB)
 have VE:=Lib.hid (VE.out.grow hB)
 have HBI:=Lib.hid (below_then HBI.out hB)
 have HIA:=Lib.hid (HIA.out.grow hB)
 have HOB:=Lib.hid (HOB.out.grow hB)
 have VP:=Lib.hid (VP.out.grow hB)
 have HW:=Lib.hid (below_then HW.out hB)
 clear hB
 have HOF:=Lib.hid hof
 have HXM:=Lib.hid hxm
 clear hof hxm
 go_wp2_with (fail)
 refine (KSTx _).mono ?_
 rintro e w26 ⟨a2,b2,rfl,-,-,hB⟩
 have V1:=Lib.hid (V1.out.grow hB)
 have V2:=Lib.hid (V2.out.grow hB)
 have V3:=Lib.hid (V3.out.grow hB)
 have V4:=Lib.hid (V4.out.grow hB)
 have V5:=Lib.hid (V5.out.grow hB)
 have V6:=Lib.hid (V6.out.grow hB)
 have V7:=Lib.hid (V7.out.grow hB)
 have V8:=Lib.hid (V8.out.grow hB)
 have V9:=Lib.hid (V9.out.grow hB)
 have V10:=Lib.hid (V10.out.grow hB)
 have V11:=Lib.hid (V11.out.grow hB)
 have V12:=Lib.hid (V12.out.grow hB)
 have HF:=Lib.hid (HF.out.grow hB)
 have HBK:=Lib.hid (HBK.out.grow hB)
 have VA:=Lib.hid (VA.out.grow hB)
 have VB:=Lib.hid (VB.out.grow hB)
 have VC:=Lib.hid (VC.out.grow hB)
 have VD:=Lib.hid (VD.out.grow hB)
 have VE:=Lib.hid (VE.out.grow hB)
 have HBI:=Lib.hid (below_then HBI.out hB)
 have HIA:=Lib.hid (HIA.out.grow hB)
 have HOB:=Lib.hid (HOB.out.grow hB)
 have VP:=Lib.hid (VP.out.grow hB)
 have HOF:=Lib.hid (HOF.out.grow hB)
 have HW:=Lib.hid (below_then HW.out hB)
 clear hB
 go_wp2_with (fail)
 refine (KP0.out _).mono ?_
 rintro e w27 ⟨p2_,c2_,rfl,-,-,hB⟩
 have V1:=Lib.hid (V1.out.grow hB)
 have V2:=Lib.hid (V2.out.grow hB)
 have V3:=Lib.hid (V3.out.grow hB)
 have V4:=Lib.hid (V4.out.grow hB)
 have V5:=Lib.hid (V5.out.grow hB)
 have V6:=Lib.hid (V6.out.grow hB)
 have V7:=Lib.hid (V7.out.grow hB)
 have V8:=Lib.hid (V8.out.grow hB)
 have V9:=Lib.hid (V9.out.grow hB)
 have V10:=Lib.hid (V10.out.grow hB)
 have V11:=Lib.hid (V11.out.grow hB)
 have V12:=Lib.hid (V12.out.grow hB)
 have HF:=Lib.hid (HF.out.grow hB)
 have HBK:=Lib.hid (HBK.out.grow hB)
 have VA:=Lib.hid (VA.out.grow hB)
 have VB:=Lib.hid (VB.out.grow hB)
 have VC:=Lib.hid (VC.out.grow hB)
 have VD:=Lib.hid (VD.out.grow hB)
 have VE:=Lib.hid (VE.out.grow hB)
 have HBI:=Lib.hid (below_then HBI.out hB)
 have HIA:=Lib.hid (HIA.out.grow hB)
 have HOB:=Lib.hid (HOB.out.grow hB)
 have VP:=Lib.hid (VP.out.grow hB)
 have HOF:=Lib.hid (HOF.out.grow hB)
 have HW:=Lib.hid (below_then HW.out hB)
 clear hB
 go_wp2_with (fail)
 refine (KCOx _).mono ?_
 rintro e w28 ⟨rfl,hB⟩
 have V1:=Lib.hid (V1.out.grow hB)
 have V2:=Lib.hid (V2.out.grow hB)
 have V3:=Lib.hid (V3.out.grow hB)
 have V4:=Lib.hid (V4.out.grow hB)
 have V5:=Lib.hid (V5.out.grow hB)
 have V6:=Lib.hid (V6.out.grow hB)
 have V7:=Lib.hid (V7.out.grow hB)
 have V8:=Lib.hid (V8.out.grow hB)
 have V9:=Lib.hid (V9.out.grow hB)
 have V10:=Lib.hid (V10.out.grow hB)
 have V11:=Lib.hid (V11.out.grow hB)
 have V12:=Lib.hid (V12.out.grow hB)
 have HF:=Lib.hid (HF.out.grow hB)
 have HBK:=Lib.hid (HBK.out.grow hB)
 have VA:=Lib.hid (VA.out.grow hB)
 have VB:=Lib.hid (VB.out.grow hB)
 have VC:=Lib.hid (VC.out.grow hB)
 have VD:=Lib.hid (VD.out.grow hB)
 have VE:=Lib.hid (VE.out.grow hB)
 have HBI:=Lib.hid (below_then HBI.out hB)
 have HIA:=Lib.hid (HIA.out.grow hB)
 have HOB:=Lib.hid (HOB.out.grow hB)
 have VP:=Lib.hid (VP.out.grow hB)
 have HOF:=Lib.hid (HOF.out.grow hB)
 have HW:=Lib.hid (below_then HW.out hB)
 clear hB
 go_wp2_with (fail)
 refine (KIEx _ _ _ _ _).mono ?_
 rintro e w29 ⟨rfl,hB⟩
 have V1:=Lib.hid (V1.out.grow hB)
 have V2:=Lib.hid (V2.out.grow hB)
 have V3:=Lib.hid (V3.out.grow hB)
 have V4:=Lib.hid (V4.out.grow hB)
 have V5:=Lib.hid (V5.out.grow hB)
 have V6:=Lib.hid (V6.out.grow hB)
 have V7:=Lib.hid (V7.out.grow hB)
 have V8:=Lib.hid (V8.out.grow hB)
 have V9:=Lib.hid (V9.out.grow hB)
 have V10:=Lib.hid (V10.out.grow hB)
 have V11:=Lib.hid (V11.out.grow hB)
 have V12:=Lib.hid (V12.out.grow hB)
 have HF:=Lib.hid (HF.out.grow hB)
 have HBK:=Lib.hid (HBK.out.grow hB)
 have VA:=Lib.hid (VA.out.grow hB)
 have VB:=Lib.hid (VB.out.grow hB)
 have VC:=Lib.hid (VC.out.grow hB)
 have VD:=Lib.hid (VD.out.grow hB)
 have VE:=Lib.hid (VE.out.grow hB)
 have HBI:=Lib.hid (below_then HBI.out hB)
 have HIA:=Lib.hid (HIA.out.grow hB)
 have HOB:=Lib.hid (HOB.out.grow hB)
 have VP:=Lib.hid (VP.out.grow hB)
 have HOF:=Lib.hid (HOF.out.grow hB)
 have HW:=Lib.hid (below_then HW.out hB)
 clear hB
 clear KP0 KP2 KS01 KS23
 go_wp2_with (fail)
 obtain ⟨bm,om,hqm,-,rdm⟩:=zx_rd (i:=0) HOF.out.z rfl
 subst hqm
 obtain ⟨tm,hm,fpm,ppm,upm,epm,fcm,pcm,ucm,ecm,Fm,Pm,Um,Em⟩:=xm
 have hxm:=HXM.out
 dsimp only at hxm
 obtain ⟨rfl,rfl,rfl,rfl,rfl,rfl⟩:=hxm
 have VU:Hid (Vx w29 (.slice upm 1 ucm) [(0,3000)]):=Lib.hid HOF.out.b.u
 have VT:Hid (Vx w29 (.slice epm 1 ecm) [(3000,3000)]):=Lib.hid HOF.out.b.e
 have m4:∀ g:Grown w29,g.w.cell? ⟨bm,om+4,none⟩ = some (.slice upm 1 ucm):=fun g=>by
  have:=(rdm g).2.2.2.2.1
  rwa [Nat.zero_mul,Nat.add_zero] at this
 have m5:∀ g:Grown w29,g.w.cell? ⟨bm,om+5,none⟩ = some (.slice epm 1 ecm):=fun g=>by
  have:=(rdm g).2.2.2.2.2
  rwa [Nat.zero_mul,Nat.add_zero] at this
 clear rdm
 have gc0:=fun g:Grown w29=>heapN_cellj (HBK.out.grow g.h) (k:=0) rfl
 have gc1:=fun g:Grown w29=>heapN_cellj (HBK.out.grow g.h) (k:=1) rfl
 have gc2:=fun g:Grown w29=>heapN_cellj (HBK.out.grow g.h) (k:=2) rfl
 have gc3:=fun g:Grown w29=>heapN_cellj (HBK.out.grow g.h) (k:=3) rfl
 have gc4:=fun g:Grown w29=>heapN_cellj (HBK.out.grow g.h) (k:=4) rfl
 have gc5:=fun g:Grown w29=>heapN_cellj (HBK.out.grow g.h) (k:=5) rfl
 have gc6:=fun g:Grown w29=>heapN_cellj (HBK.out.grow g.h) (k:=6) rfl
 have gc7:=fun g:Grown w29=>heapN_cellj (HBK.out.grow g.h) (k:=7) rfl
 have gc8:=fun g:Grown w29=>heapN_cellj (HBK.out.grow g.h) (k:=8) rfl
 have gc9:=fun g:Grown w29=>heapN_cellj (HBK.out.grow g.h) (k:=9) rfl
 have gc10:=fun g:Grown w29=>heapN_cellj (HBK.out.grow g.h) (k:=10) rfl
 have gc11:=fun g:Grown w29=>heapN_cellj (HBK.out.grow g.h) (k:=11) rfl
 have gc12:=fun g:Grown w29=>heapN_cellj (HBK.out.grow g.h) (k:=12) rfl
 have gc13:=fun g:Grown w29=>heapN_cellj (HBK.out.grow g.h) (k:=13) rfl
 have gc14:=fun g:Grown w29=>heapN_cellj (HBK.out.grow g.h) (k:=14) rfl
 have gc15:=fun g:Grown w29=>heapN_cellj (HBK.out.grow g.h) (k:=15) rfl
 have gc16:=fun g:Grown w29=>heapN_cellj (HBK.out.grow g.h) (k:=16) rfl
 have gc17:=fun g:Grown w29=>heapN_cellj (HBK.out.grow g.h) (k:=17) rfl
 have HIT29:=Lib.hid (fun g:Grown w29=>HIT.out ⟨g.w,below_then HBI.out g.h⟩)
 have i4:=fun g:Grown w29=>(HIT29.out g).1
 have i5:=fun g:Grown w29=>(HIT29.out g).2.1
 have i6:=fun g:Grown w29=>(HIT29.out g).2.2
 refine region_pred (lk [(106,fun z_ _=>z_ = .bool true),(107,fun z_ _=>z_ = .bool true),(108,fun z_ _=>z_ = .slice qa 1 da),(109,fun z_ w'=>∃ p_ c_,z_ = .slice (some ⟨p_,0,none⟩) 1 c_∧Vx w' (.slice (some ⟨p_,0,none⟩) 1 c_) [(65536,65536)]),(110,fun z_ _=>z_ = .bool true),(111,fun z_ _=>z_ = .bool true),(112,fun z_ _=>z_ = .bool true),(113,fun z_ _=>z_ = .bool true),(114,fun z_ _=>z_ = .bool true),(115,fun z_ _=>z_ = .bool true),(116,fun z_ _=>z_ = .slice qb 1 db),(117,fun z_ w'=>∃ p_ c_,z_ = .slice (some ⟨p_,0,none⟩) 1 c_∧Vx w' (.slice (some ⟨p_,0,none⟩) 1 c_) [(0,131072)]),(118,fun z_ _=>z_ = .bool true),(119,fun z_ _=>z_ = .bool true),(120,fun z_ _=>z_ = .bool true),(121,fun z_ _=>z_ = .bool true),(122,fun z_ _=>z_ = .bool true),(123,fun z_ _=>z_ = .bool true),(124,fun z_ _=>z_ = .int .i64 196608),(125,fun z_ _=>z_ = .bool true),(126,fun z_ _=>z_ = .bool true),(127,fun z_ _=>z_ = .bool true),(128,fun z_ _=>z_ = .slice qc 1 dc),(129,fun z_ w'=>∃ p_ c_,z_ = .slice (some ⟨p_,0,none⟩) 1 c_∧Vx w' (.slice (some ⟨p_,0,none⟩) 1 c_) [(196608,196608)]),(130,fun z_ _=>z_ = .bool true),(131,fun z_ _=>z_ = .bool true),(132,fun z_ _=>z_ = .bool true),(133,fun z_ _=>z_ = .bool true),(134,fun z_ _=>z_ = .bool true),(135,fun z_ _=>z_ = .bool true),(136,fun z_ _=>z_ = .slice qd 1 dd),(137,fun z_ w'=>∃ p_ c_,z_ = .slice (some ⟨p_,0,none⟩) 1 c_∧Vx w' (.slice (some ⟨p_,0,none⟩) 1 c_) [(196608,196608)]),(138,fun z_ _=>z_ = .bool true),(139,fun z_ _=>z_ = .bool true),(140,fun z_ _=>z_ = .bool true),(141,fun z_ _=>z_ = .bool true),(142,fun z_ _=>z_ = .bool true),(143,fun z_ _=>z_ = .bool true),(144,fun z_ _=>z_ = .slice qe 1 de),(145,fun z_ w'=>∃ p_ c_,z_ = .slice (some ⟨p_,0,none⟩) 1 c_∧Vx w' (.slice (some ⟨p_,0,none⟩) 1 c_) [(65536,131072)]),(146,fun z_ _=>z_ = .bool true),(147,fun z_ _=>z_ = .bool true),(148,fun z_ _=>z_ = .bool true),(149,fun z_ _=>z_ = .bool false),(150,fun z_ _=>z_ = .bool true),(151,fun z_ _=>z_ = .bool true),(152,fun z_ _=>z_ = .bool true),(153,fun z_ _=>z_ = .bool false),(154,fun z_ _=>z_ = .bool true),(155,fun z_ _=>z_ = .bool true),(156,fun z_ _=>z_ = .bool true),(157,fun z_ _=>z_ = .slice (some ⟨gi,0,none⟩) 3 di),(158,fun z_ _=>z_ = .pointer (some ⟨gi,4,none⟩)),(159,fun z_ _=>z_ = .pointer (some ⟨gi,4,none⟩)),(160,fun z_ _=>z_ = .int .i64 7),(161,fun z_ _=>z_ = .bool true),(162,fun z_ _=>z_ = .bool true),(163,fun z_ _=>z_ = .bool true),(164,fun z_ _=>z_ = .slice (some ⟨gi,0,none⟩) 3 di),(165,fun z_ _=>z_ = .pointer (some ⟨gi,4,none⟩)),(166,fun z_ _=>z_ = .pointer (some ⟨gi,5,none⟩)),(167,fun z_ _=>z_ = .agg #[.int .i64 65536,.int .i64 131072]),(168,fun z_ _=>z_ = .agg #[.int .i64 65536,.int .i64 131072]),(169,fun z_ _=>z_ = .bool true),(170,fun z_ _=>z_ = .bool true),(171,fun z_ _=>z_ = .bool true),(172,fun z_ _=>z_ = .slice (some ⟨G,0,none⟩) 3 3),(173,fun z_ _=>z_ = .bool true),(174,fun z_ _=>z_ = .bool true),(175,fun z_ _=>z_ = .bool true),(176,fun z_ _=>z_ = .bool false),(177,fun z_ _=>z_ = .bool true),(178,fun z_ _=>z_ = .bool true),(179,fun z_ _=>z_ = .bool true),(180,fun z_ _=>z_ = .slice (some ⟨G,0,none⟩) 3 3),(181,fun z_ _=>z_ = .slice (some ⟨G,0,none⟩) 0 3),(182,fun z_ _=>z_ = .bool false),(183,fun z_ _=>z_ = .bool true),(184,fun z_ _=>z_ = .bool true),(185,fun z_ _=>z_ = .bool true),(186,fun z_ _=>z_ = .slice (some ⟨G,0,none⟩) 3 3),(187,fun z_ _=>z_ = .pointer (some ⟨G,0,none⟩)),(188,fun z_ _=>z_ = .agg #[.int .i64 0,.int .i64 65536,.slice (some ⟨p1,0,none⟩) 1 c1,.slice (some ⟨p2,0,none⟩) 1 c2,.slice (some ⟨p3,0,none⟩) 1 c3,.slice (some ⟨p4,0,none⟩) 1 c4]),(189,fun z_ _=>z_ = .slice (some ⟨G,0,none⟩) 3 3),(190,fun z_ _=>z_ = .pointer (some ⟨G,12,none⟩)),(191,fun z_ _=>z_ = .agg #[.int .i64 131072,.int .i64 65536,.slice (some ⟨p9,0,none⟩) 1 c9,.slice (some ⟨p10,0,none⟩) 1 c10,.slice (some ⟨p11,0,none⟩) 1 c11,.slice (some ⟨p12,0,none⟩) 1 c12]),(192,fun z_ w'=>∃ X_,z_ = .slice (some ⟨X_,0,none⟩) 2 2∧w29.heap.size ≤ X_∧w'.heap[X_]? = some (.cells #[.int .i64 0,.int .i64 65536,.slice (some ⟨p1,0,none⟩) 1 c1,.slice (some ⟨p2,0,none⟩) 1 c2,.slice (some ⟨p3,0,none⟩) 1 c3,.slice (some ⟨p4,0,none⟩) 1 c4,.int .i64 131072,.int .i64 65536,.slice (some ⟨p9,0,none⟩) 1 c9,.slice (some ⟨p10,0,none⟩) 1 c10,.slice (some ⟨p11,0,none⟩) 1 c11,.slice (some ⟨p12,0,none⟩) 1 c12] 39 (0,0))),(193,fun z_ _=>z_ = .bool false),(194,fun z_ _=>z_ = .bool true),(195,fun z_ _=>z_ = .bool true),(196,fun z_ _=>z_ = .bool true),(197,fun z_ _=>z_ = .int .i64 1),(198,fun z_ _=>z_ = .bool true),(199,fun z_ _=>z_ = .bool true),(200,fun z_ _=>z_ = .bool true),(201,fun z_ _=>z_ = .slice (some ⟨bm,om,none⟩) 1 dm),(202,fun z_ _=>z_ = .pointer (some ⟨bm,om,none⟩)),(203,fun z_ _=>z_ = .pointer (some ⟨bm,om+5,none⟩)),(204,fun z_ _=>z_ = .slice epm 1 ecm),(205,fun z_ _=>z_ = .agg #[.int .i64 3000,.int .i64 3000]),(206,fun z_ w'=>∃ X_,z_ = .slice (some ⟨X_,0,none⟩) 1 1∧w29.heap.size ≤ X_∧w'.heap[X_]? = some (.cells #[.int .i64 3000,.int .i64 3000] 66 (0,0))),(207,fun z_ _=>z_ = .bool true),(208,fun z_ _=>z_ = .bool true),(209,fun z_ _=>z_ = .bool true),(210,fun z_ _=>z_ = .slice (some ⟨bm,om,none⟩) 1 dm),(211,fun z_ _=>z_ = .pointer (some ⟨bm,om,none⟩)),(212,fun z_ _=>z_ = .pointer (some ⟨bm,om+4,none⟩)),(213,fun z_ _=>z_ = .slice upm 1 ucm),(214,fun z_ _=>z_ = .agg #[.int .i64 0,.int .i64 3000]),(215,fun z_ w'=>∃ X_,z_ = .slice (some ⟨X_,0,none⟩) 1 1∧w29.heap.size ≤ X_∧w'.heap[X_]? = some (.cells #[.int .i64 0,.int .i64 3000] 66 (0,0))),(216,fun z_ _=>z_ = .bool true),(217,fun z_ _=>z_ = .bool true),(0,fun z_ _=>z_ = .bool true)]) (by kernel_rfl) (by kernel_rfl) (lk_steady _ ⟨steady_eq _,steady_eq _,steady_eq _,fun u w1 w2 hb ⟨p,c,e,h⟩=>⟨p,c,e,Rx.grow h hb⟩,steady_eq _,steady_eq _,steady_eq _,steady_eq _,steady_eq _,steady_eq _,steady_eq _,fun u w1 w2 hb ⟨p,c,e,h⟩=>⟨p,c,e,Rx.grow h hb⟩,steady_eq _,steady_eq _,steady_eq _,steady_eq _,steady_eq _,steady_eq _,steady_eq _,steady_eq _,steady_eq _,steady_eq _,steady_eq _,fun u w1 w2 hb ⟨p,c,e,h⟩=>⟨p,c,e,Rx.grow h hb⟩,steady_eq _,steady_eq _,steady_eq _,steady_eq _,steady_eq _,steady_eq _,steady_eq _,fun u w1 w2 hb ⟨p,c,e,h⟩=>⟨p,c,e,Rx.grow h hb⟩,steady_eq _,steady_eq _,steady_eq _,steady_eq _,steady_eq _,steady_eq _,steady_eq _,fun u w1 w2 hb ⟨p,c,e,h⟩=>⟨p,c,e,Rx.grow h hb⟩,steady_eq _,steady_eq _,steady_eq _,steady_eq _,steady_eq _,steady_eq _,steady_eq _,steady_eq _,steady_eq _,steady_eq _,steady_eq _,steady_eq _,steady_eq _,steady_eq _,steady_eq _,steady_eq _,steady_eq _,steady_eq _,steady_eq _,steady_eq _,steady_eq _,steady_eq _,steady_eq _,steady_eq _,steady_eq _,steady_eq _,steady_eq _,steady_eq _,steady_eq _,steady_eq _,steady_eq _,steady_eq _,steady_eq _,steady_eq _,steady_eq _,steady_eq _,steady_eq _,steady_eq _,steady_eq _,steady_eq _,steady_eq _,steady_eq _,steady_eq _,steady_eq _,steady_eq _,steady_eq _,fun u w1 w2 hb ⟨X,e,h1,h2⟩=>⟨X,e,h1,(hb.block X (Array.getElem?_eq_some_iff.1 h2).1).trans h2⟩,steady_eq _,steady_eq _,steady_eq _,steady_eq _,steady_eq _,steady_eq _,steady_eq _,steady_eq _,steady_eq _,steady_eq _,steady_eq _,steady_eq _,steady_eq _,fun u w1 w2 hb ⟨X,e,h1,h2⟩=>⟨X,e,h1,(hb.block X (Array.getElem?_eq_some_iff.1 h2).1).trans h2⟩,steady_eq _,steady_eq _,steady_eq _,steady_eq _,steady_eq _,steady_eq _,steady_eq _,steady_eq _,fun u w1 w2 hb ⟨X,e,h1,h2⟩=>⟨X,e,h1,(hb.block X (Array.getElem?_eq_some_iff.1 h2).1).trans h2⟩,steady_eq _,steady_eq _,steady_eq _,trivial⟩) ?_ ?_
 ·refine ⟨?_,?_,?_,?_,?_,?_,?_,?_,?_,?_,?_,?_,?_,?_,?_,?_,?_,?_,?_,?_,?_,?_,?_,?_,?_,?_,?_,?_,?_,?_,?_,?_,?_,?_,?_,?_,?_,?_,?_,?_,?_,?_,?_,?_,?_,?_,?_,?_,?_,?_,?_,?_,?_,?_,?_,?_,?_,?_,?_,?_,?_,?_,?_,?_,?_,?_,?_,?_,?_,?_,?_,?_,?_,?_,?_,?_,?_,?_,?_,?_,?_,?_,?_,?_,?_,?_,?_,?_,?_,?_,?_,?_,?_,?_,?_,?_,?_,?_,?_,?_,?_,?_,?_,?_,?_,?_,?_,?_,?_,?_,?_,?_,?_,trivial⟩
  ·exact ob_plain [3] rfl rfl fun _ g h=>by have y0:=seen_out rfl rfl h.1; exact tv14 (by simp [go_sem,y0]) rfl
  ·exact ob_plain [106] rfl rfl fun _ g h=>by obtain ⟨_,y0,rfl⟩:=seen_in rfl h.1; exact tv14 (by simp [go_sem,y0]) rfl
  ·exact gT14 [2] true 107 rfl rfl rfl fun _ g h=>by have y0:=seen_out rfl rfl h.1; exact tv14 (by simp [go_sem,y0]) rfl
  ·exact gT14 [] true 107 rfl rfl rfl fun _ g h=>by exact tupon_enter (f:=53) (args:=#[.int .i64 1]) (by simp [go_sem]) rfl ((KP1.out g.w).mono fun e w' ⟨p_,c_,he,hv,_,hB⟩=>⟨_,he,hB,⟨_,_,rfl,hv⟩⟩)
  ·exact gT14 [108,109] true 107 rfl rfl rfl fun _ g h=>by obtain ⟨_,y0,rfl⟩:=seen_in rfl h.1; obtain ⟨_,y1,⟨z109,e109,rfl,h109⟩⟩:=seen_in rfl h.2.1; exact tupon_enter (f:=24) (args:=#[.slice qa 1 da,.slice (some ⟨z109,0,none⟩) 1 e109]) (by simp [go_sem,y0,y1]) rfl ((KSMx _ _ _ g.w (VA.out.grow g.h) h109).mono fun e w' ⟨he,hB⟩=>⟨_,he,hB,rfl⟩)
  ·exact ob_plain [107,110] rfl rfl fun _ g h=>by obtain ⟨_,y0,rfl⟩:=seen_in rfl h.1; obtain ⟨_,y1,rfl⟩:=seen_in rfl h.2.1; exact tv14 (by simp [go_sem,y0,y1]) rfl
  ·exact ob_plain [111] rfl rfl fun _ g h=>by obtain ⟨_,y0,rfl⟩:=seen_in rfl h.1; exact tv14 (by simp [go_sem,y0]) rfl
  ·exact gT14 [5] true 112 rfl rfl rfl fun _ g h=>by have y0:=seen_out rfl rfl h.1; exact tv14 (by simp [go_sem,y0]) rfl
  ·exact ob_plain [112,113] rfl rfl fun _ g h=>by obtain ⟨_,y0,rfl⟩:=seen_in rfl h.1; obtain ⟨_,y1,rfl⟩:=seen_in rfl h.2.1; exact tv14 (by simp [go_sem,y0,y1]) rfl
  ·exact ob_plain [114] rfl rfl fun _ g h=>by obtain ⟨_,y0,rfl⟩:=seen_in rfl h.1; exact tv14 (by simp [go_sem,y0]) rfl
  ·exact gT14 [4] true 115 rfl rfl rfl fun _ g h=>by have y0:=seen_out rfl rfl h.1; exact tv14 (by simp [go_sem,y0]) rfl
  ·exact gT14 [] true 115 rfl rfl rfl fun _ g h=>by exact tupon_enter (f:=54) (args:=#[.int .i64 0,.int .i64 2]) (by simp [go_sem]) rfl ((KS02.out g.w).mono fun e w' ⟨p_,c_,he,hv,_,hB⟩=>⟨_,he,hB,⟨_,_,rfl,hv⟩⟩)
  ·exact gT14 [116,117] true 115 rfl rfl rfl fun _ g h=>by obtain ⟨_,y0,rfl⟩:=seen_in rfl h.1; obtain ⟨_,y1,⟨z117,e117,rfl,h117⟩⟩:=seen_in rfl h.2.1; exact tupon_enter (f:=24) (args:=#[.slice qb 1 db,.slice (some ⟨z117,0,none⟩) 1 e117]) (by simp [go_sem,y0,y1]) rfl ((KSMx _ _ _ g.w (VB.out.grow g.h) h117).mono fun e w' ⟨he,hB⟩=>⟨_,he,hB,rfl⟩)
  ·exact ob_plain [115,118] rfl rfl fun _ g h=>by obtain ⟨_,y0,rfl⟩:=seen_in rfl h.1; obtain ⟨_,y1,rfl⟩:=seen_in rfl h.2.1; exact tv14 (by simp [go_sem,y0,y1]) rfl
  ·exact ob_plain [119] rfl rfl fun _ g h=>by obtain ⟨_,y0,rfl⟩:=seen_in rfl h.1; exact tv14 (by simp [go_sem,y0]) rfl
  ·exact gT14 [8] true 120 rfl rfl rfl fun _ g h=>by have y0:=seen_out rfl rfl h.1; exact tv14 (by simp [go_sem,y0]) rfl
  ·exact ob_plain [120,121] rfl rfl fun _ g h=>by obtain ⟨_,y0,rfl⟩:=seen_in rfl h.1; obtain ⟨_,y1,rfl⟩:=seen_in rfl h.2.1; exact tv14 (by simp [go_sem,y0,y1]) rfl
  ·exact ob_plain [122] rfl rfl fun _ g h=>by obtain ⟨_,y0,rfl⟩:=seen_in rfl h.1; exact tv14 (by simp [go_sem,y0]) rfl
  ·exact gT14 [7] true 123 rfl rfl rfl fun _ g h=>by have y0:=seen_out rfl rfl h.1; exact tv14 (by simp [go_sem,y0]) rfl
  ·exact gT14 [124] true 123 rfl rfl rfl fun _ g h=>by obtain ⟨_,y0,rfl⟩:=seen_in rfl h.1; exact tv14 (by simp [go_sem,y0]) rfl
  ·exact ob_plain [123,125] rfl rfl fun _ g h=>by obtain ⟨_,y0,rfl⟩:=seen_in rfl h.1; obtain ⟨_,y1,rfl⟩:=seen_in rfl h.2.1; exact tv14 (by simp [go_sem,y0,y1]) rfl
  ·exact ob_plain [126] rfl rfl fun _ g h=>by obtain ⟨_,y0,rfl⟩:=seen_in rfl h.1; exact tv14 (by simp [go_sem,y0]) rfl
  ·exact gT14 [6] true 127 rfl rfl rfl fun _ g h=>by have y0:=seen_out rfl rfl h.1; exact tv14 (by simp [go_sem,y0]) rfl
  ·exact gT14 [] true 127 rfl rfl rfl fun _ g h=>by exact tupon_enter (f:=53) (args:=#[.int .i64 3]) (by simp [go_sem]) rfl ((KP3.out g.w).mono fun e w' ⟨p_,c_,he,hv,_,hB⟩=>⟨_,he,hB,⟨_,_,rfl,hv⟩⟩)
  ·exact gT14 [128,129] true 127 rfl rfl rfl fun _ g h=>by obtain ⟨_,y0,rfl⟩:=seen_in rfl h.1; obtain ⟨_,y1,⟨z129,e129,rfl,h129⟩⟩:=seen_in rfl h.2.1; exact tupon_enter (f:=24) (args:=#[.slice qc 1 dc,.slice (some ⟨z129,0,none⟩) 1 e129]) (by simp [go_sem,y0,y1]) rfl ((KSMx _ _ _ g.w (VC.out.grow g.h) h129).mono fun e w' ⟨he,hB⟩=>⟨_,he,hB,rfl⟩)
  ·exact ob_plain [127,130] rfl rfl fun _ g h=>by obtain ⟨_,y0,rfl⟩:=seen_in rfl h.1; obtain ⟨_,y1,rfl⟩:=seen_in rfl h.2.1; exact tv14 (by simp [go_sem,y0,y1]) rfl
  ·exact ob_plain [131] rfl rfl fun _ g h=>by obtain ⟨_,y0,rfl⟩:=seen_in rfl h.1; exact tv14 (by simp [go_sem,y0]) rfl
  ·exact gT14 [10] true 132 rfl rfl rfl fun _ g h=>by have y0:=seen_out rfl rfl h.1; exact tv14 (by simp [go_sem,y0]) rfl
  ·exact ob_plain [132,133] rfl rfl fun _ g h=>by obtain ⟨_,y0,rfl⟩:=seen_in rfl h.1; obtain ⟨_,y1,rfl⟩:=seen_in rfl h.2.1; exact tv14 (by simp [go_sem,y0,y1]) rfl
  ·exact ob_plain [134] rfl rfl fun _ g h=>by obtain ⟨_,y0,rfl⟩:=seen_in rfl h.1; exact tv14 (by simp [go_sem,y0]) rfl
  ·exact gT14 [9] true 135 rfl rfl rfl fun _ g h=>by have y0:=seen_out rfl rfl h.1; exact tv14 (by simp [go_sem,y0]) rfl
  ·exact gT14 [] true 135 rfl rfl rfl fun _ g h=>by exact tupon_enter (f:=53) (args:=#[.int .i64 3]) (by simp [go_sem]) rfl ((KP3.out g.w).mono fun e w' ⟨p_,c_,he,hv,_,hB⟩=>⟨_,he,hB,⟨_,_,rfl,hv⟩⟩)
  ·exact gT14 [136,137] true 135 rfl rfl rfl fun _ g h=>by obtain ⟨_,y0,rfl⟩:=seen_in rfl h.1; obtain ⟨_,y1,⟨z137,e137,rfl,h137⟩⟩:=seen_in rfl h.2.1; exact tupon_enter (f:=24) (args:=#[.slice qd 1 dd,.slice (some ⟨z137,0,none⟩) 1 e137]) (by simp [go_sem,y0,y1]) rfl ((KSMx _ _ _ g.w (VD.out.grow g.h) h137).mono fun e w' ⟨he,hB⟩=>⟨_,he,hB,rfl⟩)
  ·exact ob_plain [135,138] rfl rfl fun _ g h=>by obtain ⟨_,y0,rfl⟩:=seen_in rfl h.1; obtain ⟨_,y1,rfl⟩:=seen_in rfl h.2.1; exact tv14 (by simp [go_sem,y0,y1]) rfl
  ·exact ob_plain [139] rfl rfl fun _ g h=>by obtain ⟨_,y0,rfl⟩:=seen_in rfl h.1; exact tv14 (by simp [go_sem,y0]) rfl
  ·exact gT14 [12] true 140 rfl rfl rfl fun _ g h=>by have y0:=seen_out rfl rfl h.1; exact tv14 (by simp [go_sem,y0]) rfl
  ·exact ob_plain [140,141] rfl rfl fun _ g h=>by obtain ⟨_,y0,rfl⟩:=seen_in rfl h.1; obtain ⟨_,y1,rfl⟩:=seen_in rfl h.2.1; exact tv14 (by simp [go_sem,y0,y1]) rfl
  ·exact ob_plain [142] rfl rfl fun _ g h=>by obtain ⟨_,y0,rfl⟩:=seen_in rfl h.1; exact tv14 (by simp [go_sem,y0]) rfl
  ·exact gT14 [11] true 143 rfl rfl rfl fun _ g h=>by have y0:=seen_out rfl rfl h.1; exact tv14 (by simp [go_sem,y0]) rfl
  ·exact gT14 [] true 143 rfl rfl rfl fun _ g h=>by exact tupon_enter (f:=54) (args:=#[.int .i64 1,.int .i64 2]) (by simp [go_sem]) rfl ((KS12.out g.w).mono fun e w' ⟨p_,c_,he,hv,_,hB⟩=>⟨_,he,hB,⟨_,_,rfl,hv⟩⟩)
  ·exact gT14 [144,145] true 143 rfl rfl rfl fun _ g h=>by obtain ⟨_,y0,rfl⟩:=seen_in rfl h.1; obtain ⟨_,y1,⟨z145,e145,rfl,h145⟩⟩:=seen_in rfl h.2.1; exact tupon_enter (f:=24) (args:=#[.slice qe 1 de,.slice (some ⟨z145,0,none⟩) 1 e145]) (by simp [go_sem,y0,y1]) rfl ((KSMx _ _ _ g.w (VE.out.grow g.h) h145).mono fun e w' ⟨he,hB⟩=>⟨_,he,hB,rfl⟩)
  ·exact ob_plain [143,146] rfl rfl fun _ g h=>by obtain ⟨_,y0,rfl⟩:=seen_in rfl h.1; obtain ⟨_,y1,rfl⟩:=seen_in rfl h.2.1; exact tv14 (by simp [go_sem,y0,y1]) rfl
  ·exact ob_plain [147] rfl rfl fun _ g h=>by obtain ⟨_,y0,rfl⟩:=seen_in rfl h.1; exact tv14 (by simp [go_sem,y0]) rfl
  ·exact gT14 [14] true 148 rfl rfl rfl fun _ g h=>by have y0:=seen_out rfl rfl h.1; exact tv14 (by simp [go_sem,y0]) rfl
  ·exact gT14 [149] true 148 rfl rfl rfl fun _ g h=>by obtain ⟨_,y0,rfl⟩:=seen_in rfl h.1; exact tv14 (by simp [go_sem,y0]) rfl
  ·exact ob_plain [148,150] rfl rfl fun _ g h=>by obtain ⟨_,y0,rfl⟩:=seen_in rfl h.1; obtain ⟨_,y1,rfl⟩:=seen_in rfl h.2.1; exact tv14 (by simp [go_sem,y0,y1]) rfl
  ·exact ob_plain [151] rfl rfl fun _ g h=>by obtain ⟨_,y0,rfl⟩:=seen_in rfl h.1; exact tv14 (by simp [go_sem,y0]) rfl
  ·exact gT14 [16] true 152 rfl rfl rfl fun _ g h=>by have y0:=seen_out rfl rfl h.1; exact tv14 (by simp [go_sem,y0]) rfl
  ·exact gT14 [153] true 152 rfl rfl rfl fun _ g h=>by obtain ⟨_,y0,rfl⟩:=seen_in rfl h.1; exact tv14 (by simp [go_sem,y0]) rfl
  ·exact ob_plain [152,154] rfl rfl fun _ g h=>by obtain ⟨_,y0,rfl⟩:=seen_in rfl h.1; obtain ⟨_,y1,rfl⟩:=seen_in rfl h.2.1; exact tv14 (by simp [go_sem,y0,y1]) rfl
  ·exact ob_plain [155] rfl rfl fun _ g h=>by obtain ⟨_,y0,rfl⟩:=seen_in rfl h.1; exact tv14 (by simp [go_sem,y0]) rfl
  ·exact gT14 [17] true 156 rfl rfl rfl fun _ g h=>by have y0:=seen_out rfl rfl h.1; exact tv14 (by simp [go_sem,y0]) rfl
  ·exact gT14 [157] true 156 rfl rfl rfl fun _ g h=>by obtain ⟨_,y0,rfl⟩:=seen_in rfl h.1; exact tv14 (by simp [go_sem,y0]) rfl
  ·exact gT14 [158] true 156 rfl rfl rfl fun _ g h=>by obtain ⟨_,y0,rfl⟩:=seen_in rfl h.1; exact tv14 (by simp [go_sem,y0]) rfl
  ·exact gT14 [159] true 156 rfl rfl rfl fun _ g h=>by obtain ⟨_,y0,rfl⟩:=seen_in rfl h.1; exact tv14 (by simp [go_sem,y0,i4 g]) rfl
  ·exact gT14 [160] true 156 rfl rfl rfl fun _ g h=>by obtain ⟨_,y0,rfl⟩:=seen_in rfl h.1; exact tv14 (by simp [go_sem,y0]) rfl
  ·exact ob_plain [156,161] rfl rfl fun _ g h=>by obtain ⟨_,y0,rfl⟩:=seen_in rfl h.1; obtain ⟨_,y1,rfl⟩:=seen_in rfl h.2.1; exact tv14 (by simp [go_sem,y0,y1]) rfl
  ·exact ob_plain [162] rfl rfl fun _ g h=>by obtain ⟨_,y0,rfl⟩:=seen_in rfl h.1; exact tv14 (by simp [go_sem,y0]) rfl
  ·exact gT14 [17] true 163 rfl rfl rfl fun _ g h=>by have y0:=seen_out rfl rfl h.1; exact tv14 (by simp [go_sem,y0]) rfl
  ·exact gT14 [164] true 163 rfl rfl rfl fun _ g h=>by obtain ⟨_,y0,rfl⟩:=seen_in rfl h.1; exact tv14 (by simp [go_sem,y0]) rfl
  ·exact gT14 [165] true 163 rfl rfl rfl fun _ g h=>by obtain ⟨_,y0,rfl⟩:=seen_in rfl h.1; exact tv14 (by simp [go_sem,y0]) rfl
  ·exact gT14 [166] true 163 rfl rfl rfl fun _ g h=>by obtain ⟨_,y0,rfl⟩:=seen_in rfl h.1; exact tv14 (by simp [go_sem,y0,i5 g,i6 g]) rfl
  ·exact gT14 [] true 163 rfl rfl rfl fun _ g h=>by exact tv14 (by simp [go_sem]) rfl
  ·exact gT14 [167,168] true 163 rfl rfl rfl fun _ g h=>by obtain ⟨_,y0,rfl⟩:=seen_in rfl h.1; obtain ⟨_,y1,rfl⟩:=seen_in rfl h.2.1; exact tupon_enter (f:=56) (args:=#[.agg #[.int .i64 65536,.int .i64 131072],.agg #[.int .i64 65536,.int .i64 131072]]) (by simp [go_sem,y0,y1]) rfl ((KR2x g.w).mono fun e w' ⟨he,hB⟩=>⟨_,he,hB,rfl⟩)
  ·exact ob_plain [163,169] rfl rfl fun _ g h=>by obtain ⟨_,y0,rfl⟩:=seen_in rfl h.1; obtain ⟨_,y1,rfl⟩:=seen_in rfl h.2.1; exact tv14 (by simp [go_sem,y0,y1]) rfl
  ·exact ob_plain [170] rfl rfl fun _ g h=>by obtain ⟨_,y0,rfl⟩:=seen_in rfl h.1; exact tv14 (by simp [go_sem,y0]) rfl
  ·exact gT14 [1] true 171 rfl rfl rfl fun _ g h=>by have y0:=seen_out rfl rfl h.1; exact tv14 (by simp [go_sem,y0]) rfl
  ·exact gT14 [172] true 171 rfl rfl rfl fun _ g h=>by obtain ⟨_,y0,rfl⟩:=seen_in rfl h.1; exact tupon_enter (f:=23) (args:=#[.slice (some ⟨G,0,none⟩) 3 3]) (by simp [go_sem,y0]) rfl ((KV1x p1 p2 p3 p4 p5 p6 p7 p8 p9 p10 p11 p12 c1 c2 c3 c4 c5 c6 c7 c8 c9 c10 c11 c12 G g.w (HF.out.grow g.h)).mono fun e w' ⟨he,hB⟩=>⟨_,he,hB,rfl⟩)
  ·exact ob_plain [171,173] rfl rfl fun _ g h=>by obtain ⟨_,y0,rfl⟩:=seen_in rfl h.1; obtain ⟨_,y1,rfl⟩:=seen_in rfl h.2.1; exact tv14 (by simp [go_sem,y0,y1]) rfl
  ·exact ob_plain [174] rfl rfl fun _ g h=>by obtain ⟨_,y0,rfl⟩:=seen_in rfl h.1; exact tv14 (by simp [go_sem,y0]) rfl
  ·exact gT14 [] true 175 rfl rfl rfl fun _ g h=>by exact tupon_enter (f:=23) (args:=#[.slice none 0 0]) (by simp [go_sem]) rfl ((Valid_nil none 0 g.w).mono fun e w' ⟨he,hB⟩=>⟨_,he,hB,rfl⟩)
  ·exact gT14 [176] true 175 rfl rfl rfl fun _ g h=>by obtain ⟨_,y0,rfl⟩:=seen_in rfl h.1; exact tv14 (by simp [go_sem,y0]) rfl
  ·exact ob_plain [175,177] rfl rfl fun _ g h=>by obtain ⟨_,y0,rfl⟩:=seen_in rfl h.1; obtain ⟨_,y1,rfl⟩:=seen_in rfl h.2.1; exact tv14 (by simp [go_sem,y0,y1]) rfl
  ·exact ob_plain [178] rfl rfl fun _ g h=>by obtain ⟨_,y0,rfl⟩:=seen_in rfl h.1; exact tv14 (by simp [go_sem,y0]) rfl
  ·exact gT14 [1] true 179 rfl rfl rfl fun _ g h=>by have y0:=seen_out rfl rfl h.1; exact tv14 (by simp [go_sem,y0]) rfl
  ·exact gT14 [180] true 179 rfl rfl rfl fun _ g h=>by obtain ⟨_,y0,rfl⟩:=seen_in rfl h.1; exact tv14 (by simp [go_sem,y0]) rfl
  ·exact gT14 [181] true 179 rfl rfl rfl fun _ g h=>by obtain ⟨_,y0,rfl⟩:=seen_in rfl h.1; exact tupon_enter (f:=23) (args:=#[.slice (some ⟨G,0,none⟩) 0 3]) (by simp [go_sem,y0]) rfl ((Valid_nil (some ⟨G,0,none⟩) 3 g.w).mono fun e w' ⟨he,hB⟩=>⟨_,he,hB,rfl⟩)
  ·exact gT14 [182] true 179 rfl rfl rfl fun _ g h=>by obtain ⟨_,y0,rfl⟩:=seen_in rfl h.1; exact tv14 (by simp [go_sem,y0]) rfl
  ·exact ob_plain [179,183] rfl rfl fun _ g h=>by obtain ⟨_,y0,rfl⟩:=seen_in rfl h.1; obtain ⟨_,y1,rfl⟩:=seen_in rfl h.2.1; exact tv14 (by simp [go_sem,y0,y1]) rfl
  ·exact ob_plain [184] rfl rfl fun _ g h=>by obtain ⟨_,y0,rfl⟩:=seen_in rfl h.1; exact tv14 (by simp [go_sem,y0]) rfl
  ·exact gT14 [1] true 185 rfl rfl rfl fun _ g h=>by have y0:=seen_out rfl rfl h.1; exact tv14 (by simp [go_sem,y0]) rfl
  ·exact gT14 [186] true 185 rfl rfl rfl fun _ g h=>by obtain ⟨_,y0,rfl⟩:=seen_in rfl h.1; exact tv14 (by simp [go_sem,y0]) rfl
  ·exact gT14 [187] true 185 rfl rfl rfl fun _ g h=>by obtain ⟨_,y0,rfl⟩:=seen_in rfl h.1; exact tv14 (by simp [go_sem,y0,gc0 g,gc1 g,gc2 g,gc3 g,gc4 g,gc5 g]) rfl
  ·exact gT14 [1] true 185 rfl rfl rfl fun _ g h=>by have y0:=seen_out rfl rfl h.1; exact tv14 (by simp [go_sem,y0]) rfl
  ·exact gT14 [189] true 185 rfl rfl rfl fun _ g h=>by obtain ⟨_,y0,rfl⟩:=seen_in rfl h.1; exact tv14 (by simp [go_sem,y0]) rfl
  ·exact gT14 [190] true 185 rfl rfl rfl fun _ g h=>by obtain ⟨_,y0,rfl⟩:=seen_in rfl h.1; exact tv14 (by simp [go_sem,y0,gc12 g,gc13 g,gc14 g,gc15 g,gc16 g,gc17 g]) rfl
  ·exact gT14 [188,191] true 185 rfl rfl rfl fun _ g h=>by obtain ⟨_,y0,rfl⟩:=seen_in rfl h.1; obtain ⟨_,y1,rfl⟩:=seen_in rfl h.2.1; exact tupon_value (v:=.slice (some ⟨g.w.heap.size,0,none⟩) 2 2) (w1:=g.w.alloc (.cells #[.int .i64 0,.int .i64 65536,.slice (some ⟨p1,0,none⟩) 1 c1,.slice (some ⟨p2,0,none⟩) 1 c2,.slice (some ⟨p3,0,none⟩) 1 c3,.slice (some ⟨p4,0,none⟩) 1 c4,.int .i64 131072,.int .i64 65536,.slice (some ⟨p9,0,none⟩) 1 c9,.slice (some ⟨p10,0,none⟩) 1 c10,.slice (some ⟨p11,0,none⟩) 1 c11,.slice (some ⟨p12,0,none⟩) 1 c12] 39)) (by simp [go_sem,y0,y1]) ((Below.refl _ _).alloc (Nat.le_refl _) _) ⟨_,rfl,g.h.size,World.alloc_heap_new _ _⟩
  ·exact gT14 [192] true 185 rfl rfl rfl fun _ g h=>by obtain ⟨_,y0,⟨X192,rfl,hX192,hI192⟩⟩:=seen_in rfl h.1; exact tupon_enter (f:=23) (args:=#[.slice (some ⟨X192,0,none⟩) 2 2]) (by simp [go_sem,y0]) rfl ((KV4x p1 p2 p3 p4 p5 p6 p7 p8 p9 p10 p11 p12 c1 c2 c3 c4 c5 c6 c7 c8 c9 c10 c11 c12 X192 g.w hI192 (V1.out.grow g.h) (V2.out.grow g.h) (V3.out.grow g.h) (V4.out.grow g.h) (V9.out.grow g.h) (V10.out.grow g.h) (V11.out.grow g.h) (V12.out.grow g.h)).mono fun e w' ⟨he,hB⟩=>⟨_,he,hB,rfl⟩)
  ·exact gT14 [193] true 185 rfl rfl rfl fun _ g h=>by obtain ⟨_,y0,rfl⟩:=seen_in rfl h.1; exact tv14 (by simp [go_sem,y0]) rfl
  ·exact ob_plain [185,194] rfl rfl fun _ g h=>by obtain ⟨_,y0,rfl⟩:=seen_in rfl h.1; obtain ⟨_,y1,rfl⟩:=seen_in rfl h.2.1; exact tv14 (by simp [go_sem,y0,y1]) rfl
  ·exact ob_plain [195] rfl rfl fun _ g h=>by obtain ⟨_,y0,rfl⟩:=seen_in rfl h.1; exact tv14 (by simp [go_sem,y0]) rfl
  ·exact gT14 [21] true 196 rfl rfl rfl fun _ g h=>by have y0:=seen_out rfl rfl h.1; exact tv14 (by simp [go_sem,y0]) rfl
  ·exact gT14 [197] true 196 rfl rfl rfl fun _ g h=>by obtain ⟨_,y0,rfl⟩:=seen_in rfl h.1; exact tv14 (by simp [go_sem,y0]) rfl
  ·exact ob_plain [196,198] rfl rfl fun _ g h=>by obtain ⟨_,y0,rfl⟩:=seen_in rfl h.1; obtain ⟨_,y1,rfl⟩:=seen_in rfl h.2.1; exact tv14 (by simp [go_sem,y0,y1]) rfl
  ·exact ob_plain [199] rfl rfl fun _ g h=>by obtain ⟨_,y0,rfl⟩:=seen_in rfl h.1; exact tv14 (by simp [go_sem,y0]) rfl
  ·exact gT14 [18] true 200 rfl rfl rfl fun _ g h=>by have y0:=seen_out rfl rfl h.1; exact tv14 (by simp [go_sem,y0]) rfl
  ·exact gT14 [201] true 200 rfl rfl rfl fun _ g h=>by obtain ⟨_,y0,rfl⟩:=seen_in rfl h.1; exact tv14 (by simp [go_sem,y0]) rfl
  ·exact gT14 [202] true 200 rfl rfl rfl fun _ g h=>by obtain ⟨_,y0,rfl⟩:=seen_in rfl h.1; exact tv14 (by simp [go_sem,y0]) rfl
  ·exact gT14 [203] true 200 rfl rfl rfl fun _ g h=>by obtain ⟨_,y0,rfl⟩:=seen_in rfl h.1; exact tv14 (by simp [go_sem,y0,m5 g]) rfl
  ·exact gT14 [] true 200 rfl rfl rfl fun _ g h=>by exact tv14 (by simp [go_sem]) rfl
  ·exact gT14 [205] true 200 rfl rfl rfl fun _ g h=>by obtain ⟨_,y0,rfl⟩:=seen_in rfl h.1; exact tupon_value (v:=.slice (some ⟨g.w.heap.size,0,none⟩) 1 1) (w1:=g.w.alloc (.cells #[.int .i64 3000,.int .i64 3000] 66)) (by simp [go_sem,y0]) ((Below.refl _ _).alloc (Nat.le_refl _) _) ⟨_,rfl,g.h.size,World.alloc_heap_new _ _⟩
  ·exact gT14 [204,206] true 200 rfl rfl rfl fun _ g h=>by obtain ⟨_,y0,rfl⟩:=seen_in rfl h.1; obtain ⟨_,y1,⟨X206,rfl,hX206,hI206⟩⟩:=seen_in rfl h.2.1; exact tupon_enter (f:=24) (args:=#[.slice epm 1 ecm,.slice (some ⟨X206,0,none⟩) 1 1]) (by simp [go_sem,y0,y1]) rfl ((KSMx _ _ _ g.w (VT.out.grow g.h) (rx_blk (n:=1) (l:=[((3000:Int),(3000:Int))]) encB_len (show Blk g.w X206 _ from hI206) rfl rfl (by unfold maxLen; simp))).mono fun e w' ⟨he,hB⟩=>⟨_,he,hB,rfl⟩)
  ·exact ob_plain [200,207] rfl rfl fun _ g h=>by obtain ⟨_,y0,rfl⟩:=seen_in rfl h.1; obtain ⟨_,y1,rfl⟩:=seen_in rfl h.2.1; exact tv14 (by simp [go_sem,y0,y1]) rfl
  ·exact ob_plain [208] rfl rfl fun _ g h=>by obtain ⟨_,y0,rfl⟩:=seen_in rfl h.1; exact tv14 (by simp [go_sem,y0]) rfl
  ·exact gT14 [18] true 209 rfl rfl rfl fun _ g h=>by have y0:=seen_out rfl rfl h.1; exact tv14 (by simp [go_sem,y0]) rfl
  ·exact gT14 [210] true 209 rfl rfl rfl fun _ g h=>by obtain ⟨_,y0,rfl⟩:=seen_in rfl h.1; exact tv14 (by simp [go_sem,y0]) rfl
  ·exact gT14 [211] true 209 rfl rfl rfl fun _ g h=>by obtain ⟨_,y0,rfl⟩:=seen_in rfl h.1; exact tv14 (by simp [go_sem,y0]) rfl
  ·exact gT14 [212] true 209 rfl rfl rfl fun _ g h=>by obtain ⟨_,y0,rfl⟩:=seen_in rfl h.1; exact tv14 (by simp [go_sem,y0,m4 g]) rfl
  ·exact gT14 [] true 209 rfl rfl rfl fun _ g h=>by exact tv14 (by simp [go_sem]) rfl
  ·exact gT14 [214] true 209 rfl rfl rfl fun _ g h=>by obtain ⟨_,y0,rfl⟩:=seen_in rfl h.1; exact tupon_value (v:=.slice (some ⟨g.w.heap.size,0,none⟩) 1 1) (w1:=g.w.alloc (.cells #[.int .i64 0,.int .i64 3000] 66)) (by simp [go_sem,y0]) ((Below.refl _ _).alloc (Nat.le_refl _) _) ⟨_,rfl,g.h.size,World.alloc_heap_new _ _⟩
  ·exact gT14 [213,215] true 209 rfl rfl rfl fun _ g h=>by obtain ⟨_,y0,rfl⟩:=seen_in rfl h.1; obtain ⟨_,y1,⟨X215,rfl,hX215,hI215⟩⟩:=seen_in rfl h.2.1; exact tupon_enter (f:=24) (args:=#[.slice upm 1 ucm,.slice (some ⟨X215,0,none⟩) 1 1]) (by simp [go_sem,y0,y1]) rfl ((KSMx _ _ _ g.w (VU.out.grow g.h) (rx_blk (n:=1) (l:=[((0:Int),(3000:Int))]) encB_len (show Blk g.w X215 _ from hI215) rfl rfl (by unfold maxLen; simp))).mono fun e w' ⟨he,hB⟩=>⟨_,he,hB,rfl⟩)
  ·exact ob_plain [209,216] rfl rfl fun _ g h=>by obtain ⟨_,y0,rfl⟩:=seen_in rfl h.1; obtain ⟨_,y1,rfl⟩:=seen_in rfl h.2.1; exact tv14 (by simp [go_sem,y0,y1]) rfl
  ·exact ob_plain [217] rfl rfl fun _ g h=>by obtain ⟨_,y0,rfl⟩:=seen_in rfl h.1; exact tv14 (by simp [go_sem,y0]) rfl
 rintro wz hB _ rfl _ rfl _ rfl _ ⟨z109,e109,rfl,h109⟩ _ rfl _ rfl _ rfl _ rfl _ rfl _ rfl _ rfl _ ⟨z117,e117,rfl,h117⟩ _ rfl _ rfl _ rfl _ rfl _ rfl _ rfl _ rfl _ rfl _ rfl _ rfl _ rfl _ ⟨z129,e129,rfl,h129⟩ _ rfl _ rfl _ rfl _ rfl _ rfl _ rfl _ rfl _ ⟨z137,e137,rfl,h137⟩ _ rfl _ rfl _ rfl _ rfl _ rfl _ rfl _ rfl _ ⟨z145,e145,rfl,h145⟩ _ rfl _ rfl _ rfl _ rfl _ rfl _ rfl _ rfl _ rfl _ rfl _ rfl _ rfl _ rfl _ rfl _ rfl _ rfl _ rfl _ rfl _ rfl _ rfl _ rfl _ rfl _ rfl _ rfl _ rfl _ rfl _ rfl _ rfl _ rfl _ rfl _ rfl _ rfl _ rfl _ rfl _ rfl _ rfl _ rfl _ rfl _ rfl _ rfl _ rfl _ rfl _ rfl _ rfl _ rfl _ rfl _ rfl _ ⟨X192,rfl,hX192,hI192⟩ _ rfl _ rfl _ rfl _ rfl _ rfl _ rfl _ rfl _ rfl _ rfl _ rfl _ rfl _ rfl _ rfl _ ⟨X206,rfl,hX206,hI206⟩ _ rfl _ rfl _ rfl _ rfl _ rfl _ rfl _ rfl _ rfl _ ⟨X215,rfl,hX215,hI215⟩ _ rfl _ rfl _ rfl
 simp only [Act.put,List.setIfInBounds_toArray,List.set_cons_succ,List.set_cons_zero,List.filterMap_nil,finP]
 have HW9:=below_then HW.out hB
 clear hB
 go_wp2_with (fail)
 go_ret
 exact ⟨rfl,HW9⟩
end Go.Proofs.YtdfdpghdjlgghaaGreat
