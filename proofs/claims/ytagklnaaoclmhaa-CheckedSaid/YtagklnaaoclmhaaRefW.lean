import Derived.Test.YtagklnaaoclmhaaRefV
import Derived.BigRegion
set_option linter.unusedSimpArgs false
set_option linter.unusedVariables false
namespace Go.Proofs.Ytagklnaaoclmhaa
open Go.RowKit

/-- A square of bools: its rows' blocks. -/
structure Lead (w : World) (lb n : Nat) (mbs : List Nat) (M : List (List Bool)) : Prop where
  obj : objAt w lb = some (.cells ((mbs.map (fun m => Value.slice (some ⟨m, 0, none⟩) n n)) ++ List.replicate (n - mbs.length) (Value.slice none 0 0)).toArray 60 (0, 0))
  row : ∀ i, i < mbs.length → BoolsAt w (mbs.getD i 0) (M.getD i [])
  len : M.length = mbs.length
  lenr : ∀ i, i < mbs.length → (M.getD i []).length = n
  dup : ∀ i j, i < mbs.length → j < mbs.length → mbs.getD i 0 = mbs.getD j 0 → i = j
  le : mbs.length ≤ n

theorem Lead.cell {w : World} {lb n : Nat} {mbs : List Nat} {M : List (List Bool)} (h : Lead w lb n mbs M) {i : Nat} (hi : i < mbs.length) : w.cell? ⟨lb, i, none⟩ = some (.slice (some ⟨mbs.getD i 0, 0, none⟩) n n) := by
  rw [objAt_cell h.obj]
  simp [List.getElem?_append_left, hi, List.getD]
theorem Lead.spare {w : World} {lb n : Nat} {mbs : List Nat} {M : List (List Bool)} (h : Lead w lb n mbs M) {i : Nat} (hi : i < n) : (∃ u, w.cell? ⟨lb, i, none⟩ = some u) ∧ w.frozen? ⟨lb, i, none⟩ = false := by
  refine ⟨?_, objAt_frozen h.obj⟩
  rw [objAt_cell h.obj]
  exact ⟨_, Array.getElem?_eq_getElem (by have := h.le; simp; omega)⟩
theorem Lead.kept {S : Nat → Prop} {w w' : World} {lb n : Nat} {mbs : List Nat} {M : List (List Bool)} (h : Lead w lb n mbs M) (hk : Kept S w w') (h1 : ¬ S lb) (h2 : ∀ i, i < mbs.length → ¬ S (mbs.getD i 0)) : Lead w' lb n mbs M :=
  ⟨objAt_kept h.obj hk h1, fun i hi => (h.row i hi).kept hk (h2 i hi), h.len, h.lenr, h.dup, h.le⟩
theorem Lead.nlb {w : World} {lb n : Nat} {mbs : List Nat} {M : List (List Bool)} (h : Lead w lb n mbs M) {x : Nat} {L : List Bool} (hx : BoolsAt w x L) : x ≠ lb := by
  rintro rfl
  have h1 := h.obj
  rw [show objAt w x = _ from hx] at h1
  simp at h1
/-- A row is given its block. -/
theorem Lead.push {w : World} {lb n m : Nat} {mbs : List Nat} {M : List (List Bool)} {L : List Bool} (h : Lead w lb n mbs M) (hi : mbs.length < n) (hm : BoolsAt w m L) (hL : L.length = n) (hn : ∀ i, i < mbs.length → mbs.getD i 0 ≠ m) :
    Lead (w.setCell ⟨lb, mbs.length, none⟩ (.slice (some ⟨m, 0, none⟩) n n)) lb n (mbs ++ [m]) (M ++ [L]) := by
  have hml := h.nlb hm
  have hK : Kept (· = lb) w (w.setCell ⟨lb, mbs.length, none⟩ (.slice (some ⟨m, 0, none⟩) n n)) := (Kept.refl (· = lb) w).setCell (fun _ => rfl) _
  refine ⟨?_, fun i hi' => ?_, by simp [h.len], fun i hi' => ?_, fun i j hi' hj' e => ?_, by simp; omega⟩
  · rw [objAt_set h.obj]
    congr 2
    apply Array.ext'
    rw [Array.toList_setIfInBounds]
    simp only [List.map_append, List.map_cons, List.map_nil, List.length_append, List.length_cons, List.length_nil]
    rw [List.set_append_right _ _ (by simp), List.length_map, Nat.sub_self, show n - mbs.length = (n - (mbs.length + 1)) + 1 by omega, List.replicate_succ, List.set_cons_zero]
    simp
  · simp only [List.length_append, List.length_cons, List.length_nil] at hi'
    by_cases hlt : i < mbs.length
    · rw [getD_app_l hlt, getD_app_l (by rw [h.len]; exact hlt)]
      exact (h.row i hlt).kept hK (fun e => (h.nlb (h.row i hlt)) e)
    · have : i = mbs.length := by omega
      subst this
      rw [getD_app_r (by omega), getD_app_r (by rw [h.len]; omega), h.len, Nat.sub_self]
      exact hm.kept hK hml
  · simp only [List.length_append, List.length_cons, List.length_nil] at hi'
    by_cases hlt : i < mbs.length
    · rw [getD_app_l (by rw [h.len]; exact hlt)]; exact h.lenr i hlt
    · rw [getD_app_r (by rw [h.len]; omega), show i - M.length = 0 by rw [h.len]; omega]; exact hL
  · simp only [List.length_append, List.length_cons, List.length_nil] at hi' hj'
    by_cases hlt : i < mbs.length
    · by_cases hjt : j < mbs.length
      · rw [getD_app_l hlt, getD_app_l hjt] at e; exact h.dup i j hlt hjt e
      · rw [getD_app_l hlt, getD_app_r (by omega), show j - mbs.length = 0 by omega] at e
        exact absurd e (hn i hlt)
    · by_cases hjt : j < mbs.length
      · rw [getD_app_l hjt, getD_app_r (by omega), show i - mbs.length = 0 by omega] at e
        exact absurd e.symm (hn j hjt)
      · omega
/-- One bool of the square is set. -/
theorem Lead.set {w : World} {lb n i j : Nat} {mbs : List Nat} {M : List (List Bool)} (h : Lead w lb n mbs M) (hi : i < mbs.length) (v : Bool) :
    Lead (w.setCell ⟨mbs.getD i 0, j, none⟩ (.bool v)) lb n mbs (M.set i ((M.getD i []).set j v)) := by
  have hK : Kept (· = mbs.getD i 0) w (w.setCell ⟨mbs.getD i 0, j, none⟩ (.bool v)) := (Kept.refl (· = mbs.getD i 0) w).setCell (fun _ => rfl) _
  have hM : i < M.length := by rw [h.len]; exact hi
  refine ⟨objAt_kept h.obj hK (fun e => h.nlb (h.row i hi) e.symm), fun t ht => ?_, by simp [h.len], fun t ht => ?_, h.dup, h.le⟩
  · by_cases e : t = i
    · subst e
      rw [show (M.set t ((M.getD t []).set j v)).getD t [] = (M.getD t []).set j v by simp [List.getD, hM]]
      exact (h.row t ht).set j v
    · rw [show (M.set i ((M.getD i []).set j v)).getD t [] = M.getD t [] by simp [List.getD, List.getElem?_set, Ne.symm e]]
      exact (h.row t ht).kept hK (fun e' => e (h.dup t i ht hi e'))
  · by_cases e : t = i
    · subst e
      rw [show (M.set t ((M.getD t []).set j v)).getD t [] = (M.getD t []).set j v by simp [List.getD, hM]]
      simp only [List.length_set]; exact h.lenr t ht
    · rw [show (M.set i ((M.getD i []).set j v)).getD t [] = M.getD t [] by simp [List.getD, List.getElem?_set, Ne.symm e]]
      exact h.lenr t ht

theorem info60 : (Try.prog.info? 60).map (fun i => (i.zero, i.size, i.bytes)) = some (some (.slice none 0 0), 1, 24) := by kernel_rfl
/-- A list of nil lists is made. -/
theorem mkL (W : World) (n : Nat) (hn : n ≤ 5000) : (Instr.makeSlice 62 (.int .i64 (n : Int)) (.int .i64 (n : Int))).run Try.prog W = .ok (.slice (some ⟨W.heap.size, 0, none⟩) n n) (W.alloc (.cells (Array.replicate n (.slice none 0 0)) 60)) := by
  obtain ⟨i0, hi0, hz0, hz1, hz2⟩ := info_parts info60
  have hr := run_make (P := Try.prog) W 62 60 i0 _ Try.underlying62 hi0 hz0 .i64 .i64 n n (by omega) (Int.le_refl _) (by rw [hz2]; omega) (by omega)
  rw [hr]
  simp only [Int.toNat_natCast, hz1, Nat.mul_one]
  have hz : (Value.slice none 0 0).cells = #[.slice none 0 0] := rfl
  have : madeCells (Value.slice none 0 0).cells n = Array.replicate n (.slice none 0 0) := by
    apply Array.ext'
    rw [hz, toList_madeCells_one]; simp
  rw [this]
theorem new_lead (W : World) (n : Nat) : Lead (W.alloc (.cells (Array.replicate n (.slice none 0 0)) 60)) W.heap.size n [] [] := by
  refine ⟨?_, fun i h => absurd h (by simp), rfl, fun i h => absurd h (by simp), fun i j h => absurd h (by simp), by simp⟩
  rw [objAt_new]
  simp

end Go.Proofs.Ytagklnaaoclmhaa
