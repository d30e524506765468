/-
  The reference's Pick; images hold the starts.
-/
import Derived.Test.YtecmgiihacigaaaVm
import Derived.BigQuiet
namespace Go.Proofs.Ytecmgiihacigaaa
open Go.ChangeShapes Go.WideShapes Go.ChangeAt Go.RowKit Go.Maps
set_option linter.unusedVariables false
set_option linter.unusedSimpArgs false
set_option maxRecDepth 100000
attribute [local irreducible] Calls
theorem img_sup {L : List Is} {O : List Int} {N T H : Int} {X D : List (Int × Int)} (htv : tvB N L O = true) (hXN : (X.length : Int) = N) (hvx : ∀ p ∈ X, VI p.1 p.2) (hD : D.length = X.length) (hdv : ∀ p ∈ D, VI p.1 p.2) (t1 : -1048576 ≤ T) (t2 : T ≤ 1048576) (h0 : 0 ≤ H) (h1 : H ≤ 1000000) : SbL X (imgT L O T H X D) := by
  refine ⟨(imgT_len htv hXN).symm, fun i p q hp hq => ⟨hvx _ (List.mem_of_getElem? hp), imgT_vi htv hvx hdv t1 t2 h0 h1 _ (List.mem_of_getElem? hq), ?_⟩⟩
  obtain ⟨_, _, _, hon, hvl, _⟩ := tv_cases htv
  have hfl : (outV (evL D (T, T + H) L) O).length = X.length := by rw [out_len]; omega
  obtain ⟨f, hf⟩ : ∃ f, (outV (evL D (T, T + H) L) O)[i]? = some f := ⟨_, List.getElem?_eq_getElem (by rw [hfl]; exact (List.getElem?_eq_some_iff.1 hp).1)⟩
  have hq2 : (imgL H X (outV (evL D (T, T + H) L) O))[i]? = some q := hq
  rw [imgL_at hp hf] at hq2
  obtain rfl := Option.some.inj hq2
  exact imgP_sup (hvx _ (List.mem_of_getElem? hp)) (out_vi (evL_vi hdv (time_vi t1 t2 h0 h1) hvl) _ (List.mem_of_getElem? hf)) h0 h1
/-- A number of an interval, picked. -/
def pickI (a b x : Int) : Int := a + x % (b - a + 1)
theorem pickI_in {a b x : Int} (hab : a ≤ b) : a ≤ pickI a b x ∧ pickI a b x ≤ b := by
  have h1 := Int.emod_nonneg x (show b - a + 1 ≠ 0 by omega)
  have h2 := Int.emod_lt_of_pos x (show 0 < b - a + 1 by omega)
  unfold pickI
  omega
set_option maxHeartbeats 4000000 in
theorem pick_ok (a b x : Int) (w : World) (ha : Num a) (hb : Num b) (hab : a ≤ b) (hx : 0 ≤ x) (hx2 : x ≤ 4294967295) :
    Calls Try.prog 25 #[.agg #[.int .i64 a, .int .i64 b], .int .u32 x] w fun e w' => e = .returned (.int .i64 (pickI a b x)) ∧ Below w.heap.size w w' := by
  unfold Num at ha hb
  have m1 := Int.emod_nonneg x (show b - a + 1 ≠ 0 by omega)
  have m2 := Int.emod_lt_of_pos x (show 0 < b - a + 1 by omega)
  have U1 : IntKind.i64.wrap x = x := wrapI _ (by omega) (by omega)
  have U2 : IntKind.i64.wrap (b - a) = b - a := wrapI _ (by omega) (by omega)
  have U3 : IntKind.i64.wrap (b - a + 1) = b - a + 1 := wrapI _ (by omega) (by omega)
  have hd : ¬ b - a + 1 = 0 := by omega
  have t1 : x.tmod (b - a + 1) = x % (b - a + 1) := Int.tmod_eq_emod_of_nonneg hx
  obtain ⟨m, hm⟩ : ∃ m, x % (b - a + 1) = m := ⟨_, rfl⟩
  unfold pickI
  rw [hm] at m1 m2 t1 ⊢
  have U4 : IntKind.i64.wrap m = m := wrapI _ (by omega) (by omega)
  have U5 : IntKind.i64.wrap (a + m) = a + m := wrapI _ (by omega) (by omega)
  have h0 : Below w.heap.size w (w.alloc (.cells #[.int .i64 a, .int .i64 b] 45)) := (Below.refl _ _).alloc (Nat.le_refl _) _
  clear hm hx m1 m2 ha hb hab
  go_enter Try.func25, Try.ntmps25
  go_wp2_with (fail)
  go_quiet (fail)
  go_wp2_with (fail)
  go_ret
  exact ⟨rfl, below_drewN h0 _⟩
end Go.Proofs.Ytecmgiihacigaaa
