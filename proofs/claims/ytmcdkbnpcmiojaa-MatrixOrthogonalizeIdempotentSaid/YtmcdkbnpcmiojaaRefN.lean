/-
  The reference's Length.
-/
import Derived.Test.YtmcdkbnpcmiojaaOrthA
import Derived.Test.YtmcdkbnpcmiojaaPointIn
namespace Go.Proofs.Ytmcdkbnpcmiojaa
open Go.ChangeShapes Go.WideShapes Go.ChangeAt Go.RowKit
set_option linter.unusedVariables false
set_option linter.unusedSimpArgs false
set_option maxRecDepth 100000

attribute [local irreducible] Calls
theorem sq_take {x : List Int} {j : Nat} {a : Int} (h : x[j]? = some a) : sqV (x.take (j + 1)) = sqV (x.take j) + a * a := by
  unfold sqV
  rw [List.take_add_one, h]
  simp
theorem sqV_bd {x : List Int} {B : Int} (h : ∀ a ∈ x, 0 ≤ a * a ∧ a * a ≤ B) : 0 ≤ sqV x ∧ sqV x ≤ B * x.length := by
  induction x with
  | nil => simp [sqV]
  | cons a x ih =>
    have h1 := h a (by simp)
    have h2 := ih fun b hb => h b (by simp [hb])
    have e : sqV (a :: x) = a * a + sqV x := by simp [sqV]
    have e2 : B * ((a :: x).length : Int) = B * x.length + B := by rw [List.length_cons]; push_cast; rw [Int.mul_add, Int.mul_one]
    omega
set_option maxHeartbeats 4000000 in
theorem r4length (v : Value) (x : List Int) (w : World) (hv : Pt w v x) (hl : x.length ≤ 6) (hb : ∀ a ∈ x, -67108864 ≤ a ∧ a ≤ 67108864) :
    Calls Try.prog 13 #[v] w fun e w' => e = .returned (.int .i64 (isq (sqV x))) ∧ Below w.heap.size w w' := by
  have hsq : ∀ a ∈ x, 0 ≤ a * a ∧ a * a ≤ 4503599627370496 := fun a ha => by
    have h := hb a ha
    have := mul_bound a a 67108864 67108864 h.1 h.2 h.1 h.2
    exact ⟨sq4_nn a, by omega⟩
  have hbd : ∀ j, 0 ≤ sqV (x.take j) ∧ sqV (x.take j) ≤ 27021597764222976 := fun j => by
    have h := sqV_bd (x := x.take j) fun a ha => hsq a (List.mem_of_mem_take ha)
    have : (x.take j).length ≤ 6 := by rw [List.length_take]; omega
    omega
  obtain ⟨_, p, c, rfl, hp⟩ := hv
  have HSQ := Lib.hid hsq
  have HBD := Lib.hid hbd
  obtain ⟨q, hq⟩ : ∃ q, isq (sqV x) = q := ⟨_, rfl⟩
  rw [hq]
  have HQ := Lib.hid hq
  clear hsq hbd hb hq
  go_enter Try.func13, Try.ntmps13
  go_wp2_with (fail)
  go_loopw [3, 4] (fun s i wr => ∃ k : Nat, i = .int .i64 k ∧ k ≤ x.length ∧ s = .int .i64 (sqV (x.take k)) ∧ Below w.heap.size w wr) (fun _ i _ => x.length - (intOf i).toNat)
  case atStart => exact ⟨0, rfl, Nat.zero_le _, by simp [sqV], Below.refl _ _⟩
  case round =>
    obtain ⟨k, rfl, hk, rfl, hB⟩ := hrel
    by_cases hlt : k < x.length
    · have ik : (k : Int) < x.length := by omega
      obtain ⟨ba, oa, a, rfl, ha, hba, ca⟩ := Pt.at (c := 0) (n := 0) hp hlt hB
      have haa := HSQ.out a (List.mem_of_getElem? ha)
      have hs := HBD.out k
      have hn := sq_take ha
      have HN := Lib.hid hn
      clear hn ha hp
      generalize sqV (x.take k) = S at *
      obtain ⟨P, hP⟩ : ∃ P, a * a = P := ⟨_, rfl⟩
      rw [hP] at haa HN
      have W1 := wrap_ok (a * a) (by omega) (by omega)
      have W2 := wrap_ok (S + a * a) (by omega) (by omega)
      go_wp2_with (fail)
      go_quiet (fail)
      go_wp2_with (fail)
      go_roundw
      case rel => exact ⟨k + 1, by go_num, by omega, by rw [HN.out, ← hP], below_drewN hB _⟩
      case measure => simp [intOf]; omega
    · obtain rfl : k = x.length := by omega
      have hs := HBD.out x.length
      rw [List.take_length] at hs
      rw [List.take_length]
      obtain ⟨S, hS⟩ : ∃ S, sqV x = S := ⟨_, rfl⟩
      rw [hS] at hs
      rw [hS]
      have hq := HQ.out
      rw [hS] at hq
      have hsp := isq_spec hs.1
      have hle : ∀ m, 0 ≤ m → m * m ≤ S → m ≤ q := fun m h0 h => by rw [← hq]; exact le_isq hs.1 h
      have hgt : ∀ m, 0 ≤ m → S < m * m → q < m := fun m h0 h => by rw [← hq]; exact isq_lt hs.1 h h0
      have hqb : q < 2147483648 := hgt 2147483648 (by decide) (by omega)
      have hq0 : 0 ≤ q := by rw [← hq]; exact hsp.1
      have HLE := Lib.hid hle
      have HGT := Lib.hid hgt
      clear hS hq hsp hle hgt hp
      go_wp2_with (fail)
      go_loopw [5, 6] (fun lo hi wr => ∃ l h : Int, lo = .int .i64 l ∧ hi = .int .i64 h ∧ 0 ≤ l ∧ l ≤ q ∧ q ≤ h ∧ h ≤ 2147483648 ∧ Below w.heap.size w wr) (fun lo hi _ => (intOf hi - intOf lo).toNat)
      case atStart => exact ⟨0, 2147483648, rfl, rfl, by decide, hq0, by omega, by decide, hB⟩
      case round =>
        obtain ⟨l, h, rfl, rfl, l0, lq, qh, hh, hB2⟩ := hrel
        by_cases hlh : l < h
        · obtain ⟨m, hm⟩ : ∃ m, (l + h + 1) / 2 = m := ⟨_, rfl⟩
          have ht : (l + h + 1).tdiv 2 = m := by rw [Int.tdiv_eq_ediv_of_nonneg (by omega), hm]
          have m1 : l < m ∧ m ≤ h := by omega
          have mm := mul_bound m m 2147483648 2147483648 (by omega) (by omega) (by omega) (by omega)
          obtain ⟨P, hP⟩ : ∃ P, m * m = P := ⟨_, rfl⟩
          have W1 := wrap_ok (l + h) (by omega) (by omega)
          have W2 := wrap_ok (l + h + 1) (by omega) (by omega)
          have W3 := wrap_ok (m * m) (by omega) (by omega)
          have W4 := wrap_ok m (by omega) (by omega)
          have W5 := wrap_ok (m - 1) (by omega) (by omega)
          rw [hP] at mm W3
          by_cases hd : P ≤ S
          · have hmq := HLE.out m (by omega) (by rw [hP]; exact hd)
            clear hm
            go_wp2_with (fail)
            go_roundw
            case rel => exact ⟨m, h, rfl, rfl, by omega, hmq, qh, hh, hB2⟩
            case measure => simp [intOf]; omega
          · have hmq := HGT.out m (by omega) (by rw [hP]; omega)
            have hd' : S < P := by omega
            clear hm
            go_wp2_with (fail)
            go_roundw
            case rel => exact ⟨l, m - 1, rfl, rfl, l0, lq, by omega, by omega, hB2⟩
            case measure => simp [intOf]; omega
        · have hl' : l = q := by omega
          have hh' : h = q := by omega
          subst hl'
          rw [hh']
          go_wp2_with (fail)
          go_ret
          exact ⟨rfl, hB2⟩
end Go.Proofs.Ytmcdkbnpcmiojaa
