/-
  The contract of package armillaryref01's scaleFraction: its walk.
-/
import Derived.Test.YtjjllfaehipemaaScale
namespace Go.Proofs.Ytjjllfaehipemaa
open Go.ChangeShapes Go.WideShapes Go.ChangeAt Go.RowKit

/-- A slice of the call's own that holds the integers l. -/
def OwnI (B : Nat) (w : World) (v : Value) (l : List Int) : Prop := ∃ g cap, v = .slice (some ⟨g, 0, none⟩) l.length cap ∧ w.ownsRow B 3 1 v l.length (l.map (Value.int .i64))

theorem new_int (n : Int) : ∀ u ∈ [Value.int .i64 n], u.oneCell' = true := by
  intro u hu
  simp at hu
  subst hu
  rfl

theorem mid_get {A E : List Int} {x : Int} {r : Nat} (h : A.length = r) : ((A ++ [x] ++ E).map (Value.int .i64))[r]? = some (.int .i64 x) := by
  subst h
  simp
theorem mid_set {A E : List Int} {x u : Int} {r : Nat} (h : A.length = r) : ((A ++ [x] ++ E).map (Value.int .i64)).set r (.int .i64 u) = (A ++ u :: E).map (Value.int .i64) := by
  subst h
  simp

set_option maxHeartbeats 4000000 in
theorem scale_any (s : ByteArray) (w : World) (hs : s.size ≤ 60) (hd : allD s.data.toList) :
    Calls Try.prog 37 #[.string s] w fun e w' => ∃ v, e = .returned (.tuple #[v, .int .i64 (dblN 16 (dvs s.data.toList, 0)).2]) ∧ OwnI w.heap.size w' v (dblN 16 (dvs s.data.toList, 0)).1 ∧ Below w.heap.size w w' := by
  obtain ⟨i, hi, hz0, hz1, hz2⟩ := info_parts info_int
  have HD := Lib.hid hd
  clear hd
  go_enter Try.func37, Try.ntmps37
  go_wp2_with (fail)
  go_loopw [4, 6] (fun v c wr => ∃ (k : Nat) (l : List Int), c = .int .i64 k ∧ k ≤ s.size ∧ Hid (l = dvs (s.data.toList.take k)) ∧ OwnI w.heap.size wr v l ∧ Below w.heap.size w wr) (fun _ c _ => s.size - (intOf c).toNat)
  case atStart => exact ⟨0, [], rfl, Nat.zero_le _, rfl, ⟨w.heap.size, 0, rfl, by simpa using World.ownsRow_made (e := 3) (size := 1) w #[] 0 (Nat.le_refl _) (by decide) rfl⟩, (Below.refl _ _).alloc (Nat.le_refl _) _⟩
  case round =>
    obtain ⟨k, l, rfl, hk, hl, ⟨g, cap, rfl, hown⟩, hB⟩ := hrel
    have hll : l.length ≤ k ∧ k ≤ l.length := by
      have := congrArg List.length hl.out
      simp [dvs] at this
      omega
    have hsz := hB.size
    by_cases hlt : k < s.size
    · have hdg := allD_get HD.out k (by simpa using hlt)
      have d1 : 48 ≤ (s[k].toNat : Int) := hdg.1
      have d2 : (s[k].toNat : Int) ≤ 57 := hdg.2
      clear hdg
      have HT := Lib.hid (dvs_take s k hlt)
      go_wp2_with (at_builtin; refine wpList_append_own _ rfl (.tmp 18) (.tmp 24) 55 rfl w.heap.size 3 i (.int .i64 0) 1 8 Try.underlying55 hi hz0 hz1 hz2 rfl (by decide) (.slice (some ⟨g, 0, none⟩) l.length cap) l.length _ rfl (hown.alloc _) ⟨wr.heap.size, 0, none⟩ 1 1 [.int .i64 ((s[k].toNat : Int) - 48)] rfl rfl (new_one _ _ _) (new_int _) (by unfold maxLen; omega) (by omega) (by simp; omega) ?_)
      intro v' w1 hown' hgrow _
      have hB1 : Below w.heap.size w w1 := hB.trans (Below.grown ((Below.refl _ _).alloc hsz _) hgrow (by simp; omega) (fun k hk => (hown.lt k hk).1))
      have hform : ∃ g' cap', v' = .slice (some ⟨g', 0, none⟩) (l.length + 1) cap' := by
        rcases hown'.2 with ⟨_, h0⟩ | ⟨g', cap', cur', h, _⟩
        · omega
        · exact ⟨g', cap', h⟩
      obtain ⟨g', cap', rfl⟩ := hform
      go_wp2_with (fail)
      go_roundw
      case rel => exact ⟨k + 1, l ++ [(s[k].toNat : Int) - 48], by go_num, by omega, by rw [HT.out, ← hl.out]; exact rfl, ⟨g', cap', by simp, by simpa using hown'⟩, hB1⟩
      case measure => simp [intOf]; omega
    · have hL : Hid (l = dvs s.data.toList) := by
        have := hl.out
        rwa [List.take_of_length_le (by simp; omega)] at this
      clear hl
      go_wp2_with (fail)
      obtain ⟨wa, rfl⟩ : ∃ wa : World, wa = wr := ⟨_, rfl⟩
      have hg := (hown.lt g rfl).1
      have hl60 : l.length ≤ 60 := by omega
      have HL9 : Hid (dig9 l) := by rw [hL.out]; exact dvs_dig9 HD.out
      clear hll
      go_loopw [5, 7] (fun c m wr => ∃ n : Nat, m = .int .i64 n ∧ n ≤ 16 ∧ c = .int .i64 (dblN n (l, 0)).2 ∧ wr.ownsRow w.heap.size 3 1 (.slice (some ⟨g, 0, none⟩) l.length cap) l.length ((dblN n (l, 0)).1.map (Value.int .i64)) ∧ Below w.heap.size w wr) (fun _ m _ => 16 - (intOf m).toNat)
      case atStart => exact ⟨0, rfl, by omega, rfl, hown, hB⟩
      case round =>
        obtain ⟨n, rfl, hn, rfl, hown2, hB2⟩ := hrel
        obtain ⟨q1, q2, q3, q4⟩ := dblN_spec l HL9.out n
        have q5 := dblN_small l HL9.out n hn
        clear q4
        by_cases hn16 : n < 16
        · have HS : Hid (dblN (n + 1) (l, 0) = ((dblR (dblN n (l, 0)).1).1, 2 * (dblN n (l, 0)).2 + (dblR (dblN n (l, 0)).1).2)) := rfl
          generalize (dblN n (l, 0)).1 = D at *
          generalize (dblN n (l, 0)).2 = I at *
          have Q1 := Lib.hid q1
          have Q2 := Lib.hid q2
          clear q1 q2
          go_wp2_with (fail)
          obtain ⟨wb, rfl⟩ : ∃ wb : World, wb = wr := ⟨_, rfl⟩
          go_loopw [8, 9] (fun c z wr => ∃ (r : Nat) (y : Int), z = .int .i64 y ∧ y + 1 = (r : Int) ∧ r ≤ l.length ∧ c = .int .i64 (dblR (D.drop r)).2 ∧ wr.ownsRow w.heap.size 3 1 (.slice (some ⟨g, 0, none⟩) l.length cap) l.length ((D.take r ++ (dblR (D.drop r)).1).map (Value.int .i64)) ∧ Below w.heap.size w wr) (fun _ z _ => (intOf z + 1).toNat)
          case atStart =>
            refine ⟨l.length, _, rfl, by omega, Nat.le_refl _, ?_, ?_, hB2⟩
            · rw [List.drop_eq_nil_of_le (by have := Q2.out; omega)]
              rfl
            · rw [List.drop_eq_nil_of_le (by have := Q2.out; omega), List.take_of_length_le (by have := Q2.out; omega)]
              simpa [dblR] using hown2
          case round =>
            obtain ⟨r, y, rfl, hy, hr, rfl, hown3, hB3⟩ := hrel
            have hq1 : dig9 (D.drop r) := fun x hx => Q1.out x (List.mem_of_mem_drop hx)
            obtain ⟨_, k0, k1, _⟩ := dbl_spec _ hq1
            clear hq1
            cases r with
            | zero =>
              obtain rfl : y = -1 := by omega
              simp only [List.drop_zero, List.take_zero, List.nil_append] at k0 k1 hown3
              rw [List.drop_zero]
              go_wp2_with (fail)
              go_roundw
              case rel => exact ⟨n + 1, by go_num, by omega, by rw [HS.out], by rw [HS.out]; exact hown3, hB3⟩
              case measure => simp [intOf]; omega
            | succ r' =>
              obtain rfl : y = (r' : Int) := by omega
              have hr'D : r' < D.length := by have := Q2.out; omega
              obtain ⟨x, hx9, hdr, htk⟩ : ∃ x, (0 ≤ x ∧ x ≤ 9) ∧ D.drop r' = x :: D.drop (r' + 1) ∧ D.take (r' + 1) = D.take r' ++ [x] :=
                ⟨D[r'], Q1.out _ (List.getElem_mem hr'D), List.drop_eq_getElem_cons hr'D, List.take_succ_eq_append_getElem hr'D⟩
              have htl : (D.take r').length = r' := by rw [List.length_take]; omega
              have hcell : wr.cell? ⟨g, r', none⟩ = some (.int .i64 x) := by
                rw [hown3.cellAt r' (by omega), htk]
                exact mid_get htl
              have hfro := hown3.frozenAt r'
              have hst := (hown3.stored r' (.int .i64 ((2 * x + (dblR (D.drop (r' + 1))).2) % 10))).1
              have hset : ((D.take (r' + 1) ++ (dblR (D.drop (r' + 1))).1).map (Value.int .i64)).set r' (.int .i64 ((2 * x + (dblR (D.drop (r' + 1))).2) % 10)) = (D.take r' ++ (dblR (D.drop r')).1).map (Value.int .i64) := by
                rw [hdr, htk]
                exact mid_set htl
              rw [hset] at hst
              have HST := Lib.hid hst
              have HC : Hid ((dblR (D.drop r')).2 = (2 * x + (dblR (D.drop (r' + 1))).2) / 10) := by rw [hdr]; exact rfl
              have x0 := hx9.1
              have x9 := hx9.2
              clear hx9 hdr htk htl hst hset hown3
              generalize (dblR (D.drop (r' + 1))).2 = K at *
              go_wp2_with (fail)
              go_roundw
              case rel => exact ⟨r', (r' : Int) - 1, rfl, by omega, by omega, by rw [HC.out], HST.out, hB3.setCell hg _⟩
              case measure => simp [intOf]
        · obtain rfl : n = 16 := by omega
          have hfin : (dblN 16 (l, 0)).1.length = l.length := q2
          have HF : Hid (l = dvs s.data.toList) := hL
          go_wp2_with (fail)
          go_ret2
          refine ⟨.slice (some ⟨g, 0, none⟩) l.length cap, by rw [← HF.out]; rfl, ?_, hB2⟩
          rw [← HF.out]
          exact ⟨g, cap, by rw [hfin], by rw [hfin]; exact hown2⟩
end Go.Proofs.Ytjjllfaehipemaa
