/-
 Math Iv Fix
-/
import Derived.Test.YtdfdpghdjlgghaaGreatKda
import Derived.Below
import Derived.Outline
import Derived.WalkMore
namespace Go.Proofs.YtdfdpghdjlgghaaGreat
def dn (n d:Int):Int:=n.fdiv d
def up (n d:Int):Int:=-((-n).fdiv d)

theorem dn_pos (n:Int) {d:Int} (h:0 < d):dn n d = n / d:=Int.fdiv_eq_ediv_of_nonneg n (by omega)
theorem dn_flip (n d:Int):dn (-n) (-d) = dn n d:=Int.neg_fdiv_neg n d
theorem up_flip (n d:Int):up (-n) (-d) = up n d:=by unfold up; rw [Int.neg_fdiv_neg]
theorem dn_neg (n d:Int):dn (-n) d = -up n d:=by unfold dn up; omega
theorem dn_mul (n:Int) {d:Int} (h:0 < d):dn n d * d ≤ n∧n < dn n d * d+d:=by
 rw [dn_pos n h]
 have e:=Int.mul_ediv_add_emod n d
 have a:=Int.emod_nonneg n (b:=d) (by omega)
 have b:=Int.emod_lt_of_pos n h
 rw [Int.mul_comm] at e
 omega
theorem up_mul (n:Int) {d:Int} (h:0 < d):n ≤ up n d * d∧up n d * d < n+d:=by
 have:=dn_mul (-n) h
 rw [dn_neg,Int.neg_mul] at this
 omega
theorem dn_le {n m d:Int} (h:0 < d) (hm:m * d ≤ n):m ≤ dn n d:=by rw [dn_pos n h]; exact (Int.le_ediv_iff_mul_le h).2 hm
theorem lt_dn {n m d:Int} (h:0 < d) (hm:n < m * d):dn n d < m:=by rw [dn_pos n h]; exact (Int.ediv_lt_iff_lt_mul h).2 hm
theorem dn_is {n m d:Int} (h:0 < d) (h1:m * d ≤ n) (h2:n < m * d+d):dn n d = m:=by
 have a:=dn_le h h1
 have b:=lt_dn (n:=n) (m:=m+1) h (by rw [Int.add_mul]; omega)
 omega
theorem up_is {n m d:Int} (h:0 < d) (h1:n ≤ m * d) (h2:m * d < n+d):up n d = m:=by
 have:=dn_is (n:=-n) (m:=-m) h (by rw [Int.neg_mul]; omega) (by rw [Int.neg_mul]; omega)
 rw [dn_neg] at this
 omega
theorem dn_mono {n m d:Int} (h:0 < d) (hm:n ≤ m):dn n d ≤ dn m d:=dn_le h (by have:=(dn_mul n h).1; omega)
theorem up_mono {n m d:Int} (h:0 < d) (hm:n ≤ m):up n d ≤ up m d:=by
 have:=dn_mono (n:=-m) (m:=-n) h (by omega)
 rw [dn_neg,dn_neg] at this
 omega
theorem up_dn (n:Int) {d:Int} (h:0 < d):dn n d ≤ up n d∧up n d ≤ dn n d+1:=by
 have a:=dn_mul n h
 constructor
 ·refine Int.not_lt.1 fun hc=>?_
  have:=lt_dn (n:=n) (m:=dn n d) h (by
   have b:=(up_mul n h).1
   have c:up n d * d ≤ (dn n d - 1) * d:=Int.mul_le_mul_of_nonneg_right (by omega) (by omega)
   rw [Int.sub_mul] at c
   omega)
  omega
 ·have b:up n d ≤ dn n d+1:=by
   refine Int.not_lt.1 fun hc=>?_
   have b:=(up_mul n h).2
   have c:(dn n d+2) * d ≤ up n d * d:=Int.mul_le_mul_of_nonneg_right (by omega) (by omega)
   rw [Int.add_mul] at c
   omega
  exact b
theorem exact_pos {n d:Int} (h:0 < d) (hr:n.tmod d = 0):dn n d = n.tdiv d∧up n d = n.tdiv d:=by
 have e:=Int.mul_tdiv_add_tmod n d
 rw [Int.mul_comm] at e
 exact ⟨dn_is h (by omega) (by omega),up_is h (by omega) (by omega)⟩
theorem below_pos {n d:Int} (h:0 < d) (hr:n.tmod d < 0):dn n d = n.tdiv d - 1∧up n d = n.tdiv d:=by
 have e:=Int.mul_tdiv_add_tmod n d
 have b:=Int.lt_tmod_of_pos n h
 rw [Int.mul_comm] at e
 exact ⟨dn_is h (by rw [Int.sub_mul]; omega) (by rw [Int.sub_mul]; omega),up_is h (by omega) (by omega)⟩
theorem above_pos {n d:Int} (h:0 < d) (hr:0 < n.tmod d):dn n d = n.tdiv d∧up n d = n.tdiv d+1:=by
 have e:=Int.mul_tdiv_add_tmod n d
 have b:=Int.tmod_lt_of_pos n h
 rw [Int.mul_comm] at e
 exact ⟨dn_is h (by omega) (by omega),up_is h (by rw [Int.add_mul]; omega) (by rw [Int.add_mul]; omega)⟩
theorem tmod_flip (n d:Int):(-n).tmod (-d) = -n.tmod d:=by rw [Int.tmod_neg,Int.neg_tmod]
theorem exact_any {n d:Int} (h:d ≠ 0) (hr:n.tmod d = 0):dn n d = n.tdiv d∧up n d = n.tdiv d:=by
 rcases Int.lt_or_gt_of_ne h with h | h
 ·have:=exact_pos (n:=-n) (d:=-d) (by omega) (by rw [tmod_flip]; omega)
  rwa [dn_flip,up_flip,Int.neg_tdiv_neg] at this
 ·exact exact_pos h hr
theorem below_any {n d:Int} (hr:(0 < d∧n.tmod d < 0) ∨ (d < 0∧0 < n.tmod d)):dn n d = n.tdiv d - 1∧up n d = n.tdiv d:=by
 rcases hr with ⟨hd,hr⟩ | ⟨hd,hr⟩
 ·exact below_pos hd hr
 ·have:=below_pos (n:=-n) (d:=-d) (by omega) (by rw [tmod_flip]; omega)
  rwa [dn_flip,up_flip,Int.neg_tdiv_neg] at this
theorem above_any {n d:Int} (hr:(0 < d∧0 < n.tmod d) ∨ (d < 0∧n.tmod d < 0)):dn n d = n.tdiv d∧up n d = n.tdiv d+1:=by
 rcases hr with ⟨hd,hr⟩ | ⟨hd,hr⟩
 ·exact above_pos hd hr
 ·have:=above_pos (n:=-n) (d:=-d) (by omega) (by rw [tmod_flip]; omega)
  rwa [dn_flip,up_flip,Int.neg_tdiv_neg] at this
theorem tdiv_bound (n d B:Int) (h1:-B ≤ n) (h2:n ≤ B):-B ≤ n.tdiv d∧n.tdiv d ≤ B:=by
 have h:=Int.natAbs_tdiv_le_natAbs n d
 omega
theorem mul_bound (a b A B:Int) (h1:-A ≤ a) (h2:a ≤ A) (h3:-B ≤ b) (h4:b ≤ B):-(A * B) ≤ a * b∧a * b ≤ A * B:=by
 have x:=Int.natAbs_mul a b
 have y:a.natAbs * b.natAbs ≤ A.natAbs * B.natAbs:=Nat.mul_le_mul (by omega) (by omega)
 have z:=Int.natAbs_mul A B
 have p:0 ≤ A * B:=Int.mul_nonneg (by omega) (by omega)
 omega

def isqN:Nat→Nat
 | 0=>0
 | n+1=>if (isqN n+1) * (isqN n+1) ≤ n+1 then isqN n+1 else isqN n
theorem isqN_spec:∀ n:Nat,isqN n * isqN n ≤ n∧n < (isqN n+1) * (isqN n+1)
 | 0=>by simp [isqN]
 | n+1=>by
  have h:=isqN_spec n
  unfold isqN
  split
  ·rename_i hc
   refine ⟨hc,?_⟩
   have e:(isqN n+1+1) * (isqN n+1+1) = (isqN n+1) * (isqN n+1)+2 * (isqN n+1)+1:=by simp only [Nat.add_mul,Nat.mul_add]; omega
   rw [e]
   omega
  ·omega
def isq (n:Int):Int:=(isqN n.toNat:Nat)
theorem isq_spec {n:Int} (h:0 ≤ n):0 ≤ isq n∧isq n * isq n ≤ n∧n < (isq n+1) * (isq n+1):=by
 have a:=isqN_spec n.toNat
 have b:((isqN n.toNat * isqN n.toNat:Nat):Int) ≤ (n.toNat:Int):=Int.ofNat_le.2 a.1
 have c:(n.toNat:Int) < (((isqN n.toNat+1) * (isqN n.toNat+1):Nat):Int):=Int.ofNat_lt.2 a.2
 rw [Int.toNat_of_nonneg h] at b c
 rw [Int.natCast_mul] at b c
 refine ⟨by unfold isq; omega,by unfold isq; exact b,?_⟩
 unfold isq
 simpa using c
theorem sq_lt {a b:Int} (h:a * a < b * b) (h0:0 ≤ b):a < b:=by
 refine Int.not_le.1 fun hc=>?_
 have:=Int.mul_le_mul hc hc h0 (by omega)
 omega
theorem sq_le {a b:Int} (h0:0 ≤ a) (h:a ≤ b):a * a ≤ b * b:=Int.mul_le_mul h h h0 (by omega)
theorem le_isq {n q:Int} (h:0 ≤ n) (hq:q * q ≤ n):q ≤ isq n:=by
 have a:=isq_spec h
 have:=sq_lt (a:=q) (b:=isq n+1) (by omega) (by omega)
 omega
theorem isq_mono {n m:Int} (h:0 ≤ n) (hm:n ≤ m):isq n ≤ isq m:=le_isq (by omega) (by have:=isq_spec h; omega)
end Go.Proofs.YtdfdpghdjlgghaaGreat
namespace Go.Proofs.YtdfdpghdjlgghaaGreat
open Go.ChangeShapes Go.WideShapes Go.ChangeAt Go.RowKit
set_option linter.unusedVariables false
def Num (x:Int):Prop:=-2147483648 < x∧x < 2147483648
instance (x:Int):Decidable (Num x):=inferInstanceAs (Decidable (_∧_))
def Ent (lo hi:Int):Prop:=lo = -2147483648∧hi = 2147483648
instance (lo hi:Int):Decidable (Ent lo hi):=inferInstanceAs (Decidable (_∧_))
def VI (lo hi:Int):Prop:=Ent lo hi ∨ (Num lo∧Num hi∧lo ≤ hi)
instance (lo hi:Int):Decidable (VI lo hi):=inferInstanceAs (Decidable (_ ∨ _))
def mkLo (lo hi:Int):Int:=if Num lo∧Num hi then lo else -2147483648
def mkHi (lo hi:Int):Int:=if Num lo∧Num hi then hi else 2147483648

theorem r2num_yes (x:Int) (w:World) (h:Num x) :
  Calls Tryz.prog 41 #[.int .i64 x] w fun e w'=>e = .returned (.bool true)∧w = w':=by
 obtain ⟨h1,h2⟩:=h
 go_enter Tryz.func41,Tryz.ntmps41
 go_wp2
 go_ret
 simp
theorem r2num_no (x:Int) (w:World) (h:¬ Num x) :
  Calls Tryz.prog 41 #[.int .i64 x] w fun e w'=>e = .returned (.bool false)∧w = w':=by
 by_cases h1:-2147483648 < x
 ·have h2:¬ x < 2147483648:=fun h2=>h ⟨h1,h2⟩
  clear h
  go_enter Tryz.func41,Tryz.ntmps41
  go_wp2
  go_ret
  simp
 ·clear h
  go_enter Tryz.func41,Tryz.ntmps41
  go_wp2
  go_ret
  exact ⟨rfl,rfl⟩

theorem r2entire (w:World) :
  Calls Tryz.prog 80 #[] w fun e w'=>e = .returned (.agg #[.int .i64 (-2147483648),.int .i64 2147483648])∧Below w.heap.size w w':=by
 go_enter Tryz.func80,Tryz.ntmps80
 go_wp2
 refine bodyPost_ret (v:=.agg #[.int .i64 (-2147483648),.int .i64 2147483648]) (by simp [results,Tryz.results80,go_sem]) rfl ⟨rfl,?_⟩
 go_grown

theorem r2new (lo hi:Int) (w:World) :
  Calls Tryz.prog 74 #[.int .i64 lo,.int .i64 hi] w fun e w'=>e = .returned (.agg #[.int .i64 (mkLo lo hi),.int .i64 (mkHi lo hi)])∧Below w.heap.size w w':=by
 by_cases h1:Num lo
 ·by_cases h2:Num hi
  ·have e1:mkLo lo hi = lo:=by unfold mkLo; rw [if_pos ⟨h1,h2⟩]
   have e2:mkHi lo hi = hi:=by unfold mkHi; rw [if_pos ⟨h1,h2⟩]
   rw [e1,e2]
   have c1:=fun w=>r2num_yes lo w h1
   have c2:=fun w=>r2num_yes hi w h2
   clear h1 h2 e1 e2
   go_enter Tryz.func74,Tryz.ntmps74
   go_wp2_with (fail)
   refine (c1 _).mono ?_
   rintro e1 w1 ⟨rfl,rfl⟩
   go_wp2_with (fail)
   refine (c2 _).mono ?_
   rintro e2 w2 ⟨rfl,rfl⟩
   go_wp2_with (fail)
   refine bodyPost_ret (v:=.agg #[.int .i64 lo,.int .i64 hi]) (by simp [results,Tryz.results74,go_sem]) rfl ⟨rfl,?_⟩
   go_grown
  ·have e1:mkLo lo hi = -2147483648:=by unfold mkLo; rw [if_neg (fun h=>h2 h.2)]
   have e2:mkHi lo hi = 2147483648:=by unfold mkHi; rw [if_neg (fun h=>h2 h.2)]
   rw [e1,e2]
   have c1:=fun w=>r2num_yes lo w h1
   have c2:=fun w=>r2num_no hi w h2
   clear h1 h2 e1 e2
   go_enter Tryz.func74,Tryz.ntmps74
   go_wp2_with (fail)
   refine (c1 _).mono ?_
   rintro e1 w1 ⟨rfl,rfl⟩
   go_wp2_with (fail)
   refine (c2 _).mono ?_
   rintro e2 w2 ⟨rfl,rfl⟩
   go_wp2_with (fail)
   refine (r2entire _).mono ?_
   rintro e3 w3 ⟨rfl,hB⟩
   have hc:=hB.cell (p:=⟨w.heap.size,0,none⟩) (by simp)
   have hc2:=hB.cell (p:=⟨w.heap.size,1,none⟩) (by simp)
   have hf:=hB.frozen (p:=⟨w.heap.size,0,none⟩) (by simp)
   have hf2:=hB.frozen (p:=⟨w.heap.size,1,none⟩) (by simp)
   have hz:=hB.size
   go_wp2_with (fail)
   refine bodyPost_ret (v:=.agg #[.int .i64 (-2147483648),.int .i64 2147483648]) (by simp [results,Tryz.results74,go_sem,hc,hc2]) rfl ⟨rfl,?_⟩
   have hB':=below_then ((Below.refl w.heap.size w).alloc (Nat.le_refl _) _) hB
   go_grown
 ·have e1:mkLo lo hi = -2147483648:=by unfold mkLo; rw [if_neg (fun h=>h1 h.1)]
  have e2:mkHi lo hi = 2147483648:=by unfold mkHi; rw [if_neg (fun h=>h1 h.1)]
  rw [e1,e2]
  have c1:=fun w=>r2num_no lo w h1
  clear h1 e1 e2
  go_enter Tryz.func74,Tryz.ntmps74
  go_wp2_with (fail)
  refine (c1 _).mono ?_
  rintro e1 w1 ⟨rfl,rfl⟩
  go_wp2_with (fail)
  refine (r2entire _).mono ?_
  rintro e3 w3 ⟨rfl,hB⟩
  have hc:=hB.cell (p:=⟨w.heap.size,0,none⟩) (by simp)
  have hc2:=hB.cell (p:=⟨w.heap.size,1,none⟩) (by simp)
  have hf:=hB.frozen (p:=⟨w.heap.size,0,none⟩) (by simp)
  have hf2:=hB.frozen (p:=⟨w.heap.size,1,none⟩) (by simp)
  have hz:=hB.size
  go_wp2_with (fail)
  refine bodyPost_ret (v:=.agg #[.int .i64 (-2147483648),.int .i64 2147483648]) (by simp [results,Tryz.results74,go_sem,hc,hc2]) rfl ⟨rfl,?_⟩
  have hB':=below_then ((Below.refl w.heap.size w).alloc (Nat.le_refl _) _) hB
  go_grown
end Go.Proofs.YtdfdpghdjlgghaaGreat
namespace Go.Proofs.YtdfdpghdjlgghaaGreat
open Go.ChangeShapes Go.WideShapes Go.ChangeAt Go.RowKit
set_option linter.unusedVariables false
theorem r2subset_0 (a b c d:Int) (w:World) (h1:c ≤ a) (h2:decide (b ≤ d) = true) :
  Calls Tryz.prog 68 #[.agg #[.int .i64 a,.int .i64 b],.agg #[.int .i64 c,.int .i64 d]] w fun e w'=>e = .returned (.bool true)∧Below w.heap.size w w':=by
 go_enter Tryz.func68,Tryz.ntmps68
 go_wp2_with (fail)
 go_ret
 refine ⟨by first | rfl | (simp; omega),?_⟩
 go_grown

theorem r2subset_1 (a b c d:Int) (w:World) (h1:c ≤ a) (h2:decide (b ≤ d) = false) :
  Calls Tryz.prog 68 #[.agg #[.int .i64 a,.int .i64 b],.agg #[.int .i64 c,.int .i64 d]] w fun e w'=>e = .returned (.bool false)∧Below w.heap.size w w':=by
 go_enter Tryz.func68,Tryz.ntmps68
 go_wp2_with (fail)
 go_ret
 refine ⟨by first | rfl | (simp; omega),?_⟩
 go_grown

theorem r2subset_2 (a b c d:Int) (w:World) (h1:a < c) :
  Calls Tryz.prog 68 #[.agg #[.int .i64 a,.int .i64 b],.agg #[.int .i64 c,.int .i64 d]] w fun e w'=>e = .returned (.bool false)∧Below w.heap.size w w':=by
 go_enter Tryz.func68,Tryz.ntmps68
 go_wp2_with (fail)
 go_ret
 refine ⟨by first | rfl | (simp; omega),?_⟩
 go_grown

theorem r2same_0 (a b c d:Int) (w:World) (h1:(a == c) = true) (h2:(b == d) = true) :
  Calls Tryz.prog 56 #[.agg #[.int .i64 a,.int .i64 b],.agg #[.int .i64 c,.int .i64 d]] w fun e w'=>e = .returned (.bool true)∧Below w.heap.size w w':=by
 go_enter Tryz.func56,Tryz.ntmps56
 go_wp2_with (fail)
 go_ret
 refine ⟨by first | rfl | (simp; omega),?_⟩
 go_grown

theorem r2same_1 (a b c d:Int) (w:World) (h1:(a == c) = true) (h2:(b == d) = false) :
  Calls Tryz.prog 56 #[.agg #[.int .i64 a,.int .i64 b],.agg #[.int .i64 c,.int .i64 d]] w fun e w'=>e = .returned (.bool false)∧Below w.heap.size w w':=by
 go_enter Tryz.func56,Tryz.ntmps56
 go_wp2_with (fail)
 go_ret
 refine ⟨by first | rfl | (simp; omega),?_⟩
 go_grown

theorem r2same_2 (a b c d:Int) (w:World) (h1:(a == c) = false) :
  Calls Tryz.prog 56 #[.agg #[.int .i64 a,.int .i64 b],.agg #[.int .i64 c,.int .i64 d]] w fun e w'=>e = .returned (.bool false)∧Below w.heap.size w w':=by
 go_enter Tryz.func56,Tryz.ntmps56
 go_wp2_with (fail)
 go_ret
 refine ⟨by first | rfl | (simp; omega),?_⟩
 go_grown

end Go.Proofs.YtdfdpghdjlgghaaGreat
namespace Go.Proofs.YtdfdpghdjlgghaaGreat
open Go.ChangeShapes Go.WideShapes Go.ChangeAt Go.RowKit
set_option linter.unusedVariables false
def addLo (a b c d:Int):Int:=if Ent a b ∨ Ent c d then -2147483648 else mkLo (a+c) (b+d)
def addHi (a b c d:Int):Int:=if Ent a b ∨ Ent c d then 2147483648 else mkHi (a+c) (b+d)

end Go.Proofs.YtdfdpghdjlgghaaGreat
namespace Go.Proofs.YtdfdpghdjlgghaaGreat
open Go.ChangeShapes Go.WideShapes Go.ChangeAt Go.RowKit
theorem toward_any (t:Int) (w:World) :
  Calls Tryz.prog 235 #[.int .i64 t] w fun e w'=>e = .returned (.func (.func 238) #[] #[.pointer (some ⟨w.heap.size,0,none⟩)])∧w.alloc (.cells #[.int .i64 t] 3) = w':=by
 have hmf:∀ (fn:Fn) (first cap:Array Value) (w:World),(Instr.makeFunc fn first cap).run Tryz.prog w = .ok (.func fn first cap) w:=fun _ _ _ _=>rfl
 go_enter Tryz.func235,Tryz.ntmps235
 go_wp2
 go_ret
 exact ⟨rfl,rfl⟩

theorem rule_same (q t:Int) (p:Addr) (w:World) (hc:w.cell? p = some (.int .i64 t)) (h1:-9223372036854775807 ≤ q+t) (h2:q+t ≤ 9223372036854775807) :
  Calls Tryz.prog 238 #[.int .i64 q,.int .i64 t,.pointer (some p)] w fun e w'=>e = .returned (.int .i64 (q+t))∧w = w':=by
 go_enter Tryz.func238,Tryz.ntmps238
 go_wp2
 go_ret
 exact ⟨rfl,rfl⟩

theorem rule_other (q s t:Int) (p:Addr) (w:World) (hc:w.cell? p = some (.int .i64 t)) (h:(s == t) = false) :
  Calls Tryz.prog 238 #[.int .i64 q,.int .i64 s,.pointer (some p)] w fun e w'=>e = .returned (.int .i64 q)∧w = w':=by
 go_enter Tryz.func238,Tryz.ntmps238
 go_wp2
 go_ret
 exact ⟨rfl,rfl⟩
end Go.Proofs.YtdfdpghdjlgghaaGreat
namespace Go.Proofs.YtdfdpghdjlgghaaGreat
open Go.ChangeShapes Go.WideShapes Go.ChangeAt Go.RowKit
theorem below_tests {r d:Int} (hd:¬ d = 0) (h0:(r == 0) = false) (h1:(!decide (r < 0) == decide (d < 0)) = true):(0 < d∧r < 0) ∨ (d < 0∧0 < r):=by
 simp at h0 h1; by_cases a:r < 0 <;> by_cases b:d < 0 <;> simp [a,b] at h1 <;> omega
theorem above_tests {r d:Int} (hd:¬ d = 0) (h0:(r == 0) = false) (h1:(!decide (r < 0) == decide (d < 0)) = false):(0 < d∧0 < r) ∨ (d < 0∧r < 0):=by
 simp at h0 h1; by_cases a:r < 0 <;> by_cases b:d < 0 <;> simp [a,b] at h1 <;> omega

theorem div_up (n d:Int) (p:Addr) (w:World) (hc:w.cell? p = some (.int .i64 (1)))
  (hn1:-4611686018427387904 ≤ n) (hn2:n ≤ 4611686018427387904) (hd:¬ d = 0)  :
  Calls Tryz.prog 234 #[.int .i64 n,.int .i64 d,.func (.func 238) #[] #[.pointer (some p)]] w fun e w'=>e = .returned (.int .i64 (up n d))∧∃ k,w' = w.drewN k:=by
 have tb:=tdiv_bound n d 4611686018427387904 hn1 hn2
 have hw:IntKind.i64.wrap (n.tdiv d) = n.tdiv d:=IntWalk.i64_in _ (by omega)
 have hc0:∀ k,(w.drewN k).cell? p = some (.int .i64 (1)):=fun _=>hc
 go_enter Tryz.func234,Tryz.ntmps234
 go_wp2
 go_quiet (fail)
 clear hw
 have hc1:=Lib.hid (hc0 nq)
 clear hc hc0
 go_wp2_with (fail)
 ·refine (rule_other (n.tdiv d) (0) (1) p _ hc1.out (by decide)).mono ?_
  rintro e w' ⟨rfl,rfl⟩
  go_wp2_with (fail)
  go_ret
  exact ⟨ret_int (exact_any hd (by simpa using ‹(n.tmod d == 0) = true›)).2.symm,_,rfl⟩
 ·refine (rule_other (n.tdiv d) (-1) (1) p _ hc1.out (by decide)).mono ?_
  rintro e w' ⟨rfl,rfl⟩
  go_wp2_with (fail)
  go_ret
  exact ⟨ret_int (below_any (below_tests hd ‹_› ‹_›)).2.symm,_,rfl⟩
 ·refine (rule_same (n.tdiv d) (1) p _ hc1.out (by omega) (by omega)).mono ?_
  rintro e w' ⟨rfl,rfl⟩
  go_wp2_with (fail)
  go_ret
  exact ⟨ret_int (above_any (above_tests hd ‹_› ‹_›)).2.symm,_,rfl⟩
theorem div_dn (n d:Int) (p:Addr) (w:World) (hc:w.cell? p = some (.int .i64 (-1)))
  (hn1:-4611686018427387904 ≤ n) (hn2:n ≤ 4611686018427387904) (hd:¬ d = 0)  :
  Calls Tryz.prog 234 #[.int .i64 n,.int .i64 d,.func (.func 238) #[] #[.pointer (some p)]] w fun e w'=>e = .returned (.int .i64 (dn n d))∧∃ k,w' = w.drewN k:=by
 have tb:=tdiv_bound n d 4611686018427387904 hn1 hn2
 have hw:IntKind.i64.wrap (n.tdiv d) = n.tdiv d:=IntWalk.i64_in _ (by omega)
 have hc0:∀ k,(w.drewN k).cell? p = some (.int .i64 (-1)):=fun _=>hc
 go_enter Tryz.func234,Tryz.ntmps234
 go_wp2
 go_quiet (fail)
 clear hw
 have hc1:=Lib.hid (hc0 nq)
 clear hc hc0
 go_wp2_with (fail)
 ·refine (rule_other (n.tdiv d) (0) (-1) p _ hc1.out (by decide)).mono ?_
  rintro e w' ⟨rfl,rfl⟩
  go_wp2_with (fail)
  go_ret
  exact ⟨ret_int (exact_any hd (by simpa using ‹(n.tmod d == 0) = true›)).1.symm,_,rfl⟩
 ·refine (rule_same (n.tdiv d) (-1) p _ hc1.out (by omega) (by omega)).mono ?_
  rintro e w' ⟨rfl,rfl⟩
  go_wp2_with (fail)
  go_ret
  exact ⟨ret_int (below_any (below_tests hd ‹_› ‹_›)).1.symm,_,rfl⟩
 ·refine (rule_other (n.tdiv d) (1) (-1) p _ hc1.out (by decide)).mono ?_
  rintro e w' ⟨rfl,rfl⟩
  go_wp2_with (fail)
  go_ret
  exact ⟨ret_int (above_any (above_tests hd ‹_› ‹_›)).1.symm,_,rfl⟩
end Go.Proofs.YtdfdpghdjlgghaaGreat
namespace Go.Proofs.YtdfdpghdjlgghaaGreat
open Go.ChangeShapes Go.WideShapes Go.ChangeAt Go.RowKit
theorem bounds_any (n d:Int) (w:World)
  (hn1:-4611686018427387904 ≤ n) (hn2:n ≤ 4611686018427387904) (hd:¬ d = 0)  :
  Calls Tryz.prog 221 #[.int .i64 n,.int .i64 d] w fun e w'=>e = .returned (.tuple #[.int .i64 (dn n d),.int .i64 (up n d)])∧Below w.heap.size w w':=by
 go_enter Tryz.func221,Tryz.ntmps221
 go_wp2_with (fail)
 refine (toward_any (-1) _).mono ?_
 rintro e w' ⟨rfl,rfl⟩
 go_wp2_with (fail)
 refine (div_dn n d _ _ (by go_cell) hn1 hn2 hd).mono ?_
 rintro e w' ⟨rfl,k,rfl⟩
 go_wp2_with (fail)
 refine (toward_any 1 _).mono ?_
 rintro e w' ⟨rfl,rfl⟩
 go_wp2_with (fail)
 refine (div_up n d _ _ (by go_cell) hn1 hn2 hd).mono ?_
 rintro e w' ⟨rfl,k,rfl⟩
 go_wp2_with (fail)
 go_ret2
 exact ⟨rfl,below_drewN (Below.alloc (below_drewN (Below.alloc (Below.refl _ _) (Nat.le_refl _) _) _) (by go_size) _) _⟩

theorem valid_any (x:Int) (w:World) :
  Calls Tryz.prog 130 #[.int .i64 x] w fun e w'=>e = .returned (.bool (decide (-2147483648 < x) && decide (x < 2147483648)))∧w = w':=by
 by_cases h:-2147483648 < x
 all_goals
  go_enter Tryz.func130,Tryz.ntmps130
  go_wp2
  go_ret
  first | (simp [h]; done) | (simp; omega)

theorem mul_any (a b:Int) (w:World) (h1:-2147483648 ≤ a) (h2:a ≤ 2147483648) (h3:-2147483648 ≤ b) (h4:b ≤ 2147483648) :
  Calls Tryz.prog 185 #[.int .i64 a,.int .i64 b] w fun e w'=>e = .returned (.tuple #[.int .i64 (dn (a * b) 65536),.int .i64 (up (a * b) 65536)])∧Below w.heap.size w w':=by
 have hb:=mul_bound a b 2147483648 2147483648 h1 h2 h3 h4
 have hm1:-4611686018427387904 ≤ a * b:=by omega
 have hm2:a * b ≤ 4611686018427387904:=by omega
 clear hb
 go_enter Tryz.func185,Tryz.ntmps185
 go_wp2_with (fail)
 refine (bounds_any (a * b) 65536 _ (by omega) (by omega) (by decide)).mono ?_
 rintro e w' ⟨rfl,hb⟩
 go_wp2_with (fail)
 go_ret2
 exact ⟨rfl,hb⟩

theorem ratio_any (a n d:Int) (w:World) (h1:-2147483648 ≤ a) (h2:a ≤ 2147483648) (c1:-1073741824 ≤ n) (c2:n ≤ 1073741824) (c3:1 ≤ d) (c4:d ≤ 1073741824) :
  Calls Tryz.prog 196 #[.int .i64 a,.int .i64 n,.int .i64 d] w fun e w'=>e = .returned (.tuple #[.int .i64 (dn (a * n) d),.int .i64 (up (a * n) d),.int .i64 0])∧Below w.heap.size w w':=by
 have hb:=mul_bound a n 2147483648 1073741824 h1 h2 c1 c2
 have hm1:-4611686018427387904 ≤ a * n:=by omega
 have hm2:a * n ≤ 4611686018427387904:=by omega
 clear hb
 go_enter Tryz.func196,Tryz.ntmps196
 go_wp2_with (fail)
 refine (bounds_any (a * n) d _ (by omega) (by omega) (by omega)).mono ?_
 rintro e w' ⟨rfl,hb⟩
 go_wp2_with (fail)
 go_ret3
 exact ⟨rfl,hb⟩
end Go.Proofs.YtdfdpghdjlgghaaGreat
namespace Go.Proofs.YtdfdpghdjlgghaaGreat
open Go.ChangeShapes Go.WideShapes Go.ChangeAt Go.RowKit
def usq (n:Int):Int:=if isq n * isq n = n then isq n else isq n+1

end Go.Proofs.YtdfdpghdjlgghaaGreat
