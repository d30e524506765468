/-
  The contract of package fixed's 'Parse', at every string.
-/
import Derived.Test.YtjjllfaehipemaaParse
namespace Go.Proofs.Ytjjllfaehipemaa
open Go.ChangeShapes Go.WideShapes Go.ChangeAt Go.RowKit

def loOf (s : ByteArray) : Int := sizeLo (wholeOf s).data.toList (fracIf s).data.toList
def hiOf (s : ByteArray) : Int := sizeHi (wholeOf s).data.toList (fracIf s).data.toList
/-- What 'Parse' hands back. -/
def parseV (s : ByteArray) : Int × Int × Int × Int :=
  match perr s with
  | some o => (0, 0, (o : Int), 10)
  | none => if hiOf s < 2147483648 then (if sgn s = 1 then (-hiOf s, -loOf s, 0, 0) else (loOf s, hiOf s, 0, 0)) else (0, 0, 0, 2)
def quad (q : Int × Int × Int × Int) : Value := .tuple #[.int .i64 q.1, .int .i64 q.2.1, .int .i64 q.2.2.1, .int .i64 q.2.2.2]

theorem results_tmp4 {fn : Func} {t u v x : Tmp} (h : fn.results = #[.tmp t, .tmp u, .tmp v, .tmp x]) (tmps : Array Value) (P : Program) (w : World) :
    (results fn tmps).run P w = .ok (.tuple #[tmps.getD t undef, tmps.getD u undef, tmps.getD v undef, tmps.getD x undef]) w := by simp [results, h]

theorem valid_yes (x : Int) (w : World) (h1 : -2147483648 < x) (h2 : x < 2147483648) :
    Calls Try.prog 13 #[.int .i64 x] w fun e w' => e = .returned (.bool true) ∧ w = w' := by
  have h := valid_any x w
  simpa [h1, h2] using h
theorem valid_no (x : Int) (w : World) (h2 : ¬ x < 2147483648) :
    Calls Try.prog 13 #[.int .i64 x] w fun e w' => e = .returned (.bool false) ∧ w = w' := by
  have h := valid_any x w
  simpa [h2] using h

theorem run_len (s : ByteArray) (n : Nat) (hs : s.size ≤ maxLen) : (runAt s n).size ≤ maxLen := by
  unfold runAt
  simp only [ByteArray.size_extract]
  omega
theorem fracIf_len (s : ByteArray) (hs : s.size ≤ maxLen) : (fracIf s).size ≤ maxLen := by
  unfold fracIf
  split
  · exact run_len s _ hs
  · exact Nat.zero_le _
theorem fracIf_digits (s : ByteArray) : allD (fracIf s).data.toList := by
  unfold fracIf
  split
  · exact run_digits s _
  · intro c hc; simp at hc
theorem bounds_of (s : ByteArray) : 0 ≤ loOf s ∧ loOf s ≤ hiOf s ∧ hiOf s ≤ 140737488500000 := by
  have a := wv_bd (cap := 2147483648) (by decide) _ (run_digits s (sgn s))
  have b := fracD_bd _ (fracIf_digits s)
  have c := up_dn (fracD (fracIf s).data.toList) (d := 1525878906250) (by decide)
  have d : 0 ≤ dn (fracD (fracIf s).data.toList) 1525878906250 ∧ dn (fracD (fracIf s).data.toList) 1525878906250 ≤ 65536 := by rw [dn_pos _ (by decide)]; omega
  have e : wholeOf s = runAt s (sgn s) := rfl
  unfold loOf hiOf sizeLo sizeHi
  rw [e]
  omega

theorem parse_err (s : ByteArray) (o : Nat) (w : World) (hs : s.size ≤ maxLen) (h : perr s = some o) :
    Calls Try.prog 24 #[.string s] w fun e w' => e = .returned (.tuple #[.int .i64 0, .int .i64 0, .int .i64 (o : Int), .int .i64 10]) ∧ Below w.heap.size w w' := by
  have hsp : ∀ w, Calls Try.prog 35 #[.string s] w fun e w' => e = .returned (.tuple #[.agg #[.bool false, .string ⟨#[]⟩, .string ⟨#[]⟩], .int .i64 (o : Int), .int .i64 10]) ∧ Below w.heap.size w w' := fun w => by
    have := split_any s w hs
    rwa [splitV_some h] at this
  clear h
  go_enter Try.func24, Try.ntmps24
  go_wp2_with (fail)
  refine (hsp _).mono ?_
  rintro e1 w1 ⟨rfl, hb1⟩
  go_wp2_with (fail)
  refine bodyPost_ret (results_tmp4 rfl _ _ _) rfl ⟨rfl, ?_⟩
  exact Below.alloc hb1 hb1.size _

theorem parse_ok (s : ByteArray) (w : World) (hs : s.size ≤ maxLen) (h : perr s = none) :
    Calls Try.prog 24 #[.string s] w fun e w' => e = .returned (quad (parseV s)) ∧ Below w.heap.size w w' := by
  have hsp : ∀ w, Calls Try.prog 35 #[.string s] w fun e w' => e = .returned (.tuple #[.agg #[.bool (decide (sgn s = 1)), .string (wholeOf s), .string (fracIf s)], .int .i64 0, .int .i64 0]) ∧ Below w.heap.size w w' := fun w => by
    have := split_any s w hs
    rwa [splitV_none h] at this
  have hv : parseV s = if hiOf s < 2147483648 then (if sgn s = 1 then (-hiOf s, -loOf s, 0, 0) else (loOf s, hiOf s, 0, 0)) else (0, 0, 0, 2) := by unfold parseV; rw [h]
  have hsz : ∀ (b : Bool) w, Calls Try.prog 36 #[.agg #[.bool b, .string (wholeOf s), .string (fracIf s)]] w fun e w' => e = .returned (.tuple #[.int .u64 (loOf s), .int .u64 (hiOf s)]) ∧ Below w.heap.size w w' :=
    fun b w => size_any b (wholeOf s) (fracIf s) w (run_len s _ hs) (fracIf_len s hs) (run_digits s _) (fracIf_digits s)
  have hbd := bounds_of s
  generalize wholeOf s = W at *
  generalize fracIf s = F at *
  generalize loOf s = lo at *
  generalize hiOf s = hi at *
  have hq : Hid (parseV s = if hi < 2147483648 then (if sgn s = 1 then (-hi, -lo, 0, 0) else (lo, hi, 0, 0)) else (0, 0, 0, 2)) := hv
  clear hv h
  by_cases hbig : hi < 2147483648
  case neg =>
    go_enter Try.func24, Try.ntmps24
    go_wp2_with (fail)
    refine (hsp _).mono ?_
    rintro e1 w1 ⟨rfl, hb1⟩
    go_wp2_with (fail)
    refine (hsz _ _).mono ?_
    rintro e2 w2 ⟨rfl, hb2⟩
    go_wp2_with (fail)
    refine (valid_no hi _ (by omega)).mono ?_
    rintro e3 w3 ⟨rfl, rfl⟩
    go_wp2_with (fail)
    refine bodyPost_ret (results_tmp4 rfl _ _ _) rfl ⟨by rw [hq.out, if_neg (by omega)]; rfl, ?_⟩
    exact below_then (Below.alloc hb1 hb1.size _) hb2
  by_cases hsg : sgn s = 1
  · simp only [hsg, decide_true] at hsp
    go_enter Try.func24, Try.ntmps24
    go_wp2_with (fail)
    refine (hsp _).mono ?_
    rintro e1 w1 ⟨rfl, hb1⟩
    go_wp2_with (fail)
    refine (hsz _ _).mono ?_
    rintro e2 w2 ⟨rfl, hb2⟩
    have hkeep : ∀ o, w2.cell? ⟨w1.heap.size, o, none⟩ = (w1.alloc (.cells #[.bool true, .string W, .string F] 50)).cell? ⟨w1.heap.size, o, none⟩ := fun o => hb2.cell (p := ⟨w1.heap.size, o, none⟩) (by simp)
    have hk0 : w2.cell? ⟨w1.heap.size, 0, none⟩ = some (.bool true) := by rw [hkeep]; go_cell
    clear hkeep
    go_wp2_with (fail)
    refine (valid_yes hi _ (by omega) (by omega)).mono ?_
    rintro e3 w3 ⟨rfl, rfl⟩
    go_wp2_with (fail)
    refine bodyPost_ret (results_tmp4 rfl _ _ _) rfl ⟨by rw [hq.out, if_pos (by omega), if_pos hsg]; rfl, ?_⟩
    exact below_then (Below.alloc hb1 hb1.size _) hb2
  · simp only [hsg, decide_false] at hsp
    go_enter Try.func24, Try.ntmps24
    go_wp2_with (fail)
    refine (hsp _).mono ?_
    rintro e1 w1 ⟨rfl, hb1⟩
    go_wp2_with (fail)
    refine (hsz _ _).mono ?_
    rintro e2 w2 ⟨rfl, hb2⟩
    have hkeep : ∀ o, w2.cell? ⟨w1.heap.size, o, none⟩ = (w1.alloc (.cells #[.bool false, .string W, .string F] 50)).cell? ⟨w1.heap.size, o, none⟩ := fun o => hb2.cell (p := ⟨w1.heap.size, o, none⟩) (by simp)
    have hk0 : w2.cell? ⟨w1.heap.size, 0, none⟩ = some (.bool false) := by rw [hkeep]; go_cell
    clear hkeep
    go_wp2_with (fail)
    refine (valid_yes hi _ (by omega) (by omega)).mono ?_
    rintro e3 w3 ⟨rfl, rfl⟩
    go_wp2_with (fail)
    refine bodyPost_ret (results_tmp4 rfl _ _ _) rfl ⟨by rw [hq.out, if_pos (by omega), if_neg hsg]; rfl, ?_⟩
    exact below_then (Below.alloc hb1 hb1.size _) hb2

theorem parse_any (s : ByteArray) (w : World) (hs : s.size ≤ maxLen) :
    Calls Try.prog 24 #[.string s] w fun e w' => e = .returned (quad (parseV s)) ∧ Below w.heap.size w w' := by
  cases h : perr s with
  | some o =>
    have e : parseV s = (0, 0, (o : Int), 10) := by unfold parseV; rw [h]
    rw [e]
    exact parse_err s o w hs h
  | none => exact parse_ok s w hs h
end Go.Proofs.Ytjjllfaehipemaa
