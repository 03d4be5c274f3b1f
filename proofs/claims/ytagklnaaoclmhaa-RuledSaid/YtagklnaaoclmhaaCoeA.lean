import Derived.Test.YtagklnaaoclmhaaCodY
import Derived.Test.YtagklnaaoclmhaaN59
set_option linter.unusedSimpArgs false
set_option linter.unusedVariables false
namespace Go.Proofs.Ytagklnaaoclmhaa
open Go.RowKit

/-- Eight sets of rules. -/
def mat (M : Nat → Nat → Bool) : Array Value := ((List.range 64).map (fun q => Value.bool (M (q / 8) (q % 8)))).toArray
def stR (M : Nat → Nat → Bool) (i : Nat) (R : Nat → Bool) (a b : Nat) : Bool := if a = i then R b else M a b
def stB (R : Nat → Bool) (k : Nat) (v : Bool) (b : Nat) : Bool := if b = k then v else R b

theorem mat_size (M : Nat → Nat → Bool) : (mat M).size = 64 := by simp [mat]
theorem mat_get {M : Nat → Nat → Bool} {i j : Nat} (hi : i < 8) (hj : j < 8) : (mat M)[i * 8 + j]? = some (.bool (M i j)) := by
  unfold mat
  rw [List.getElem?_toArray, List.getElem?_map, List.getElem?_range (by omega)]
  have h1 : (i * 8 + j) / 8 = i := by omega
  have h2 : (i * 8 + j) % 8 = j := by omega
  simp [h1, h2]
theorem mat_congr {M M' : Nat → Nat → Bool} (h : ∀ a b, a < 8 → b < 8 → M a b = M' a b) : mat M = mat M' := by
  unfold mat
  congr 1
  apply List.map_congr_left
  intro q hq
  have := List.mem_range.1 hq
  rw [h _ _ (by omega) (by omega)]
theorem mat_set {M : Nat → Nat → Bool} {i j : Nat} (hi : i < 8) (hj : j < 8) (v : Bool) : (mat M).setIfInBounds (i * 8 + j) (.bool v) = mat (stR M i (stB (M i) j v)) := by
  apply Array.ext_getElem?
  intro q
  rw [Array.getElem?_setIfInBounds]
  by_cases hq : q < 64
  · obtain ⟨a, b, ha, hb, rfl⟩ : ∃ a b, a < 8 ∧ b < 8 ∧ q = a * 8 + b := ⟨q / 8, q % 8, by omega, by omega, by omega⟩
    rw [mat_get ha hb, mat_get ha hb, mat_size]
    by_cases he : i * 8 + j = a * 8 + b
    · have h1 : a = i := by omega
      have h2 : b = j := by omega
      subst h1 h2
      rw [if_pos rfl, if_pos (by omega)]
      simp [stR, stB]
    · rw [if_neg he]
      unfold stR stB
      by_cases ha' : a = i
      · subst ha'; rw [if_pos rfl, if_neg (by omega)]
      · rw [if_neg ha']
  · rw [if_neg (by omega), Array.getElem?_eq_none (by rw [mat_size]; omega), Array.getElem?_eq_none (by rw [mat_size]; omega)]
theorem stR_stR (M : Nat → Nat → Bool) (i : Nat) (R R' : Nat → Bool) : stR (stR M i R) i R' = stR M i R' := by
  funext a b
  unfold stR
  split
  · rfl
  · rfl
theorem stR_at (M : Nat → Nat → Bool) (i : Nat) (R : Nat → Bool) : stR M i R i = R := by
  funext b; simp [stR]

theorem matcell {w : World} {k i j : Nat} {M : Nat → Nat → Bool} (h : w.heap[k]? = some (.cells (mat M) 83)) (hi : i < 8) (hj : j < 8) : w.cell? ⟨k, i * 8 + j, none⟩ = some (.bool (M i j)) := by
  simp only [World.cell?, h]; exact mat_get hi hj
theorem matfrozen {w : World} {k o : Nat} {M : Nat → Nat → Bool} (h : w.heap[k]? = some (.cells (mat M) 83)) : w.frozen? ⟨k, o, none⟩ = false := by
  simp [World.frozen?, h]
theorem matset {w : World} {k i j : Nat} {M : Nat → Nat → Bool} (h : w.heap[k]? = some (.cells (mat M) 83)) (hi : i < 8) (hj : j < 8) (v : Bool) : (w.setCell ⟨k, i * 8 + j, none⟩ (.bool v)).heap[k]? = some (.cells (mat (stR M i (stB (M i) j v))) 83) := by
  rw [heap_set_at h, mat_set hi hj]

theorem index8 (T : Nat → Bool) (k : Nat) (hk : k < 8) (W : World) : (Instr.index 81 (.agg (bl8 T)) (.int .i64 (k : Int))).run Try.prog W = .ok (.bool (T k)) W := by
  obtain ⟨i0, hi, hz0, hz1, hz2⟩ := info_parts info4
  have hs : (sizeOf 4).run Try.prog W = .ok 1 W := by simp [sizeOf, typeInfo, hi, hz1]
  simp [Instr.index, run_underlying Try.underlying81, asIntOf, go_sem, hs]
  rw [if_pos hk, bl8_get hk]
  rfl

/-- The union up to a place. -/
def unB (R T : Nat → Bool) (k : Nat) (b : Nat) : Bool := if b < k then R b || T b else R b
theorem unB_step (R T : Nat → Bool) (k : Nat) : stB (unB R T k) k (R k || T k) = unB R T (k + 1) := by
  funext b
  unfold stB unB
  by_cases h : b = k
  · subst h; rw [if_pos rfl, if_pos (by omega)]
  · rw [if_neg h]
    by_cases h2 : b < k
    · rw [if_pos h2, if_pos (by omega)]
    · rw [if_neg h2, if_neg (by omega)]

set_option maxRecDepth 100000 in
set_option maxHeartbeats 3200000 in
theorem add_code (lb i : Nat) (M : Nat → Nat → Bool) (R T : Nat → Bool) (w : World) (hi : i < 8) (hL : w.heap[lb]? = some (.cells (mat (stR M i R)) 83)) :
    Calls Try.prog 44 #[.pointer (some ⟨lb, i * 8, none⟩), .agg (bl8 T)] w fun e w' => e = .returned (.tuple #[]) ∧ w'.heap[lb]? = some (.cells (mat (stR M i (fun b => R b || T b))) 83) ∧ Kept (· = lb) w w' := by
  have hll := objAt_lt (show objAt w lb = _ from hL)
  unfold bl8
  go_enter Try.func44, Try.ntmps44
  go_wp2
  go_loopg [7] 8 (fun n v wx => ∃ k : Nat, Hid (k + n = 8) ∧ v = .int .i64 k ∧ Hid (wx.heap[lb]? = some (.cells (mat (stR M i (unB R T k))) 83)) ∧ Kept (· = lb) w wx)
  case atStart =>
    refine ⟨0, rfl, rfl, ?_, (Kept.refl _ w).alloc _⟩
    unfold Hid
    rw [Below.heap_alloc _ _ _ hll, hL, show unB R T 0 = R from by funext b; simp [unB]]
  case round =>
    obtain ⟨k, hkn, rfl, HL, hK⟩ := hrel
    obtain ⟨m, hm⟩ : ∃ m, m = gk := ⟨gk, rfl⟩
    subst hm
    by_cases hk : k < 8
    · have hc := matcell HL.out hi hk
      have hf := matfrozen (o := i * 8 + k) HL.out
      have HS := hide (fun v => matset HL.out hi hk v)
      rw [stR_at] at hc
      rw [show unB R T k k = R k from by simp [unB]] at hc
      have HU := hide (unB_step R T k)
      have hk' : (k : Int) < 8 := by omega
      have hk0 : (0 : Int) ≤ (k : Int) := by omega
      have hix := index8 T k hk
      unfold bl8 at hix
      have HC := hide (show ∀ v, v = (R k || T k) → (wr.setCell ⟨lb, i * 8 + k, none⟩ (.bool v)).heap[lb]? = some (.cells (mat (stR M i (unB R T (k + 1)))) 83) from fun v hv => by
        rw [HS.out v, stR_stR, stR_at, hv, HU.out])
      clear HS HU HL
      generalize R k = rk at *
      generalize T k = tk' at *
      cases rk
      · go_wp2
        go_region
        all_goals
          go_wp2
          go_roundg (m - 1)
          case measure => have := hkn.out; omega
          case rel => exact ⟨k + 1, by have := hkn.out; unfold Hid; omega, by go_num, HC.out tk' (by simp), (hK.setCell (p := ⟨lb, i * 8 + k, none⟩) (fun _ => rfl) _).drew⟩
      · go_wp2
        go_region
        all_goals
          go_wp2
          go_roundg (m - 1)
          case measure => have := hkn.out; omega
          case rel => exact ⟨k + 1, by have := hkn.out; unfold Hid; omega, by go_num, HC.out true (by simp), (hK.setCell (p := ⟨lb, i * 8 + k, none⟩) (fun _ => rfl) _).drew⟩
    · have hk8 : k = 8 := by have := hkn.out; omega
      subst hk8
      go_wp2
      go_end0
      refine ⟨rfl, ?_, hK⟩
      rw [HL.out]
      have hmm : mat (stR M i (unB R T 8)) = mat (stR M i (fun b => R b || T b)) := mat_congr (fun a b _ hb => by
        unfold stR unB
        rw [if_pos hb])
      rw [hmm]
end Go.Proofs.Ytagklnaaoclmhaa
