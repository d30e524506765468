/-
  The contract of package armillaryref01's scaleFraction, at a text of at most 60 digits.
-/
import Derived.Test.YtjjllfaehipemaaRFmt
namespace Go.Proofs.Ytjjllfaehipemaa
open Go.ChangeShapes Go.WideShapes Go.ChangeAt Go.RowKit

theorem info_int : (Try.prog.info? 3).map (fun i => (i.zero, i.size, i.bytes)) = some (some (.int .i64 0), 1, 8) := by kernel_rfl

/-- The values of a text's digits. -/
def dvs (l : List UInt8) : List Int := l.map dv
/-- Digits doubled from the right, and what is carried out of them. -/
def dblR : List Int → List Int × Int
  | [] => ([], 0)
  | c :: l => ((2 * c + (dblR l).2) % 10 :: (dblR l).1, (2 * c + (dblR l).2) / 10)
/-- The value of a list of digits. -/
def vl : List Int → Int
  | [] => 0
  | c :: l => c * 10 ^ l.length + vl l
def dig9 (l : List Int) : Prop := ∀ x ∈ l, 0 ≤ x ∧ x ≤ 9
theorem dbl_len : ∀ l, (dblR l).1.length = l.length
  | [] => rfl
  | c :: l => by have := dbl_len l; simp [dblR, this]
theorem dbl_spec : ∀ l, dig9 l → dig9 (dblR l).1 ∧ 0 ≤ (dblR l).2 ∧ (dblR l).2 ≤ 1 ∧ vl (dblR l).1 + (dblR l).2 * 10 ^ l.length = 2 * vl l
  | [], _ => by refine ⟨by intro x hx; simp [dblR] at hx, ?_⟩; simp [dblR, vl]
  | c :: l, h => by
    obtain ⟨a, b1, b2, e⟩ := dbl_spec l (fun x hx => h x (by simp [hx]))
    have hc := h c (by simp)
    have hl := dbl_len l
    refine ⟨?_, ?_, ?_, ?_⟩
    · intro x hx
      rcases List.mem_cons.1 hx with rfl | hx
      · omega
      · exact a x hx
    · show 0 ≤ (2 * c + (dblR l).2) / 10; omega
    · show (2 * c + (dblR l).2) / 10 ≤ 1; omega
    · show (2 * c + (dblR l).2) % 10 * 10 ^ (dblR l).1.length + vl (dblR l).1 + (2 * c + (dblR l).2) / 10 * 10 ^ (l.length + 1) = 2 * (c * 10 ^ l.length + vl l)
      rw [hl, Int.pow_succ]
      generalize (dblR l).2 = k at *
      generalize (10 : Int) ^ l.length = p at *
      have hd : 2 * c + k = (2 * c + k) / 10 * 10 + (2 * c + k) % 10 := by omega
      generalize (2 * c + k) / 10 = q at *
      generalize (2 * c + k) % 10 = r at *
      have x1 : q * (p * 10) = 10 * (q * p) := by rw [← Int.mul_assoc]; omega
      have x2 : (2 * c + k) * p = 2 * (c * p) + k * p := by rw [Int.add_mul, Int.mul_assoc]
      have x3 : (q * 10 + r) * p = 10 * (q * p) + r * p := by rw [Int.add_mul, Int.mul_comm q, Int.mul_assoc]
      rw [hd, x3] at x2
      rw [x1]
      omega
theorem vl_bd : ∀ l, dig9 l → 0 ≤ vl l ∧ vl l < 10 ^ l.length
  | [], _ => by simp [vl]
  | c :: l, h => by
    have i := vl_bd l (fun x hx => h x (by simp [hx]))
    have hc := h c (by simp)
    unfold vl
    rw [List.length_cons, Int.pow_succ]
    have p : 0 < (10 : Int) ^ l.length := Int.pow_pos (by decide)
    generalize (10 : Int) ^ l.length = q at *
    have m1 : 0 ≤ c * q := Int.mul_nonneg hc.1 (by omega)
    have m2 : c * q ≤ 9 * q := Int.mul_le_mul_of_nonneg_right hc.2 (by omega)
    omega
theorem vl_zero : ∀ l, dig9 l → (vl l = 0 ↔ ∀ x ∈ l, x = 0)
  | [], _ => by simp [vl]
  | c :: l, h => by
    have i := vl_zero l (fun x hx => h x (by simp [hx]))
    have b := vl_bd l (fun x hx => h x (by simp [hx]))
    have hc := h c (by simp)
    have p : 0 < (10 : Int) ^ l.length := Int.pow_pos (by decide)
    unfold vl
    constructor
    · intro h0
      have m : 0 ≤ c * 10 ^ l.length := Int.mul_nonneg hc.1 (by omega)
      have z : c * 10 ^ l.length = 0 := by omega
      have c0 : c = 0 := by rcases Int.mul_eq_zero.1 z with z | z <;> omega
      intro x hx
      rcases List.mem_cons.1 hx with rfl | hx
      · exact c0
      · exact i.1 (by omega) x hx
    · intro h0
      rw [h0 c (by simp), i.2 (fun x hx => h0 x (by simp [hx]))]
      simp
theorem vl_dvs : ∀ l, vl (dvs l) = val l
  | [] => rfl
  | c :: l => by
    have e := val_app [c] l
    have e1 : val [c] = dv c := by simp [val]
    rw [e1] at e
    have e2 : c :: l = [c] ++ l := rfl
    rw [e2, e, ← vl_dvs l]
    simp [dvs, vl]
theorem dvs_dig9 {l : List UInt8} (h : allD l) : dig9 (dvs l) := by
  intro x hx
  obtain ⟨c, hc, rfl⟩ := List.mem_map.1 hx
  exact dv_bd (h c hc)
theorem dvs_take (s : ByteArray) (k : Nat) (h : k < s.size) : dvs (s.data.toList.take (k + 1)) = dvs (s.data.toList.take k) ++ [(s[k].toNat : Int) - 48] := by
  rw [List.take_succ_eq_append_getElem (by simpa using h)]
  simp [dvs]
  rfl
/-- n rounds of doubling. -/
def dblN : Nat → List Int × Int → List Int × Int
  | 0, p => p
  | n + 1, p => ((dblR (dblN n p).1).1, 2 * (dblN n p).2 + (dblR (dblN n p).1).2)
theorem dblN_spec (l : List Int) (h : dig9 l) : ∀ n, dig9 (dblN n (l, 0)).1 ∧ (dblN n (l, 0)).1.length = l.length ∧ 0 ≤ (dblN n (l, 0)).2 ∧ vl (dblN n (l, 0)).1 + (dblN n (l, 0)).2 * 10 ^ l.length = vl l * 2 ^ n
  | 0 => ⟨h, rfl, by simp [dblN], by simp [dblN]⟩
  | n + 1 => by
    obtain ⟨a, b, c, e⟩ := dblN_spec l h n
    obtain ⟨a', c1, c2, e'⟩ := dbl_spec _ a
    refine ⟨a', by show (dblR _).1.length = _; rw [dbl_len, b], by show 0 ≤ 2 * (dblN n (l, 0)).2 + _; omega, ?_⟩
    show vl (dblR (dblN n (l, 0)).1).1 + (2 * (dblN n (l, 0)).2 + (dblR (dblN n (l, 0)).1).2) * 10 ^ l.length = _
    rw [b] at e'
    rw [Int.pow_succ]
    generalize (10 : Int) ^ l.length = p at *
    have x : (2 * (dblN n (l, 0)).2 + (dblR (dblN n (l, 0)).1).2) * p = 2 * ((dblN n (l, 0)).2 * p) + (dblR (dblN n (l, 0)).1).2 * p := by rw [Int.add_mul, Int.mul_assoc]
    have y : vl l * (2 ^ n * 2) = vl l * 2 ^ n * 2 := (Int.mul_assoc _ _ _).symm
    rw [x, y, ← e]
    omega
theorem dblN_small (l : List Int) (h : dig9 l) (n : Nat) (hn : n ≤ 16) : (dblN n (l, 0)).2 < 65536 := by
  obtain ⟨a, b, c, e⟩ := dblN_spec l h n
  have v := vl_bd l h
  have v' := vl_bd _ a
  have p : 0 < (10 : Int) ^ l.length := Int.pow_pos (by decide)
  have p2 : (2 : Int) ^ n ≤ 65536 := by
    have := Nat.pow_le_pow_right (n := 2) (by decide) hn
    have e2 : ((2 ^ n : Nat) : Int) ≤ ((2 ^ 16 : Nat) : Int) := Int.ofNat_le.2 this
    rw [Int.natCast_pow] at e2
    exact e2
  generalize (10 : Int) ^ l.length = q at *
  have q0 : 0 ≤ (2 : Int) ^ n := Int.pow_nonneg (by decide)
  generalize (2 : Int) ^ n = t at *
  refine Int.not_le.1 fun hc => ?_
  have m1 : vl l * t ≤ vl l * 65536 := Int.mul_le_mul_of_nonneg_left p2 v.1
  have m2 : 65536 * q ≤ (dblN n (l, 0)).2 * q := Int.mul_le_mul_of_nonneg_right hc (by omega)
  omega
end Go.Proofs.Ytjjllfaehipemaa
