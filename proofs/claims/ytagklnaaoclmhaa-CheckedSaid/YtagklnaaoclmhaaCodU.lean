import Derived.Test.YtagklnaaoclmhaaCodT
set_option linter.unusedSimpArgs false
set_option linter.unusedVariables false
namespace Go.Proofs.Ytagklnaaoclmhaa
open Go.RowKit

theorem cell_lt {w : World} {a : Addr} {v : Value} (h : w.cell? a = some v) : a.block < w.heap.size := by
  rcases Nat.lt_or_ge a.block w.heap.size with h1 | h1
  · exact h1
  · unfold World.cell? at h
    rw [Array.getElem?_eq_none h1] at h
    cases h
/-- What is read of the code's rules. -/
theorem rl_cells {w : World} {base : Nat} {rv : Value} {P : List Nat} {rs : List Rl} (h : w.ownsRow base 69 3 rv rs.length (rs.flatMap (rlC P))) {k : Nat} (hk : k < rs.length) :
    ∃ g cap, rv = .slice (some ⟨g, 0, none⟩) rs.length cap ∧ w.cell? ⟨g, k * 3, none⟩ = some (.string (ba rs[k].name)) ∧ w.cell? ⟨g, k * 3 + 1, none⟩ = some (.int .i64 (rs[k].at_ : Int)) ∧ w.cell? ⟨g, k * 3 + 2, none⟩ = some (ptrAt P rs[k].is) := by
  obtain ⟨g, cap, hv, _, _⟩ := h.form (by omega)
  subst hv
  have hf : ∀ a : Rl, (rlC P a).length = 3 := fun _ => rfl
  refine ⟨g, cap, rfl, ?_, ?_, ?_⟩
  · rw [h.cellAt (k * 3) (by omega)]
    have := flat_get (rlC P) 3 hf rs k 0 (by omega) hk
    rw [Nat.add_zero] at this
    rw [this]; rfl
  · rw [h.cellAt (k * 3 + 1) (by omega), flat_get (rlC P) 3 hf rs k 1 (by omega) hk]; rfl
  · rw [h.cellAt (k * 3 + 2) (by omega), flat_get (rlC P) 3 hf rs k 2 (by omega) hk]; rfl

set_option maxHeartbeats 800000 in
theorem find1_any (c0 nm : List UInt8) (c1 : Int) (c2 : Option Addr) (kb : Nat) (w : World) (hk : w.cell? ⟨kb, 0, none⟩ = some (.string (ba nm))) :
    Calls Try.prog 41 #[.agg #[.string (ba c0), .int .i64 c1, .pointer c2], .pointer (some ⟨kb, 0, none⟩)] w fun e w' => e = .returned (.bool (decide (c0 = nm))) ∧ Kept (fun _ => False) w w' := by
  have hlt := cell_lt hk
  have hne : kb ≠ w.heap.size := fun e => by subst e; exact Nat.lt_irrefl _ hlt
  have hk2 := hk
  have q : ((ba c0).toList == (ba nm).toList) = decide (c0 = nm) := by
    rw [ba_toList, ba_toList]
    by_cases h : c0 = nm <;> simp [h]
  go_enter Try.func41, Try.ntmps41
  go_wp2
  go_ret
  exact ⟨rfl, (Kept.refl _ _).alloc _⟩

set_option maxRecDepth 100000 in
set_option maxHeartbeats 1600000 in
theorem indexRule_any (base : Nat) (rv : Value) (P : List Nat) (rs : List Rl) (nm : List UInt8) (kb : Nat) (w : World) (hk : w.cell? ⟨kb, 0, none⟩ = some (.string (ba nm))) (hO : w.ownsRow base 69 3 rv rs.length (rs.flatMap (rlC P))) (hl : rs.length ≤ 8) :
    Calls Try.prog 40 #[rv, .func (.func 41) #[] #[.pointer (some ⟨kb, 0, none⟩)]] w fun e w' => e = .returned (.int .i64 (fnd rs nm)) ∧ Kept (fun _ => False) w w' := by
  obtain ⟨p, cap, hrv⟩ := ownsRow_form hO
  subst hrv
  have hkl := cell_lt hk
  go_enter Try.func40, Try.ntmps40
  go_wp2
  go_loopg [8] rs.length (fun n i wx => ∃ k : Nat, Hid (k + n = rs.length) ∧ i = .int .i64 k ∧ Hid (∀ j (h : j < rs.length), j < k → rs[j].name ≠ nm) ∧ Kept (fun _ => False) w wx)
  case atStart => exact ⟨0, Nat.zero_add _, rfl, fun j _ h => absurd h (by omega), Kept.refl _ _⟩
  case round =>
    obtain ⟨k, hkn, rfl, HA, hK⟩ := hrel
    obtain ⟨m, hm⟩ : ∃ m, m = gk := ⟨gk, rfl⟩
    subst hm
    have hO6 := own_kept hO hK (fun _ _ h => h)
    have hk6 : wr.cell? ⟨kb, 0, none⟩ = some (.string (ba nm)) := by rw [hK.cell (p := ⟨kb, 0, none⟩) hkl (fun h => h)]; exact hk
    by_cases hlt : k < rs.length
    · obtain ⟨gb, cap', hrv, r0, r1, r2⟩ := rl_cells hO6 hlt
      simp only [Value.slice.injEq] at hrv
      obtain ⟨hp, _, hcap⟩ := hrv
      subst hp hcap
      unfold ptrAt at r2
      have hf := find1_any rs[k].name nm (rs[k].at_ : Int) (some ⟨P.getD rs[k].is 0, 0, none⟩) kb wr hk6
      go_wp2_with fail
      refine hf.mono ?_
      rintro e w7 ⟨rfl, hK7⟩
      have hK8 := hK.trans hK7
      by_cases hnm : rs[k].name = nm
      · have q : decide (rs[k].name = nm) = true := by simpa using hnm
        have HF : Hid (fnd rs nm = (k : Int)) := by unfold Hid fnd; rw [fndI_some hlt hnm HA.out]
        rw [q]
        clear hnm HA q
        go_wp2
        go_ret
        exact ⟨by rw [HF.out]; rfl, hK8⟩
      · have q : decide (rs[k].name = nm) = false := by simpa using hnm
        have HF : Hid (∀ j (h : j < rs.length), j < k + 1 → rs[j].name ≠ nm) := fun j h hj => by
          rcases Nat.lt_or_eq_of_le (Nat.lt_succ_iff.1 hj) with h1 | h1
          · exact HA.out j h h1
          · subst h1; exact hnm
        rw [q]
        clear hnm HA q
        go_wp2
        go_roundg (m - 1)
        case measure => have := hkn.out; omega
        case rel => exact ⟨k + 1, by have := hkn.out; unfold Hid; omega, by go_num, HF, hK8⟩
    · have HF : Hid (fnd rs nm = -1) := by unfold Hid fnd; rw [fndI_none (fun j h => HA.out j h (by omega))]
      clear HA
      go_wp2
      go_ret
      exact ⟨by rw [HF.out]; rfl, hK⟩

set_option maxHeartbeats 800000 in
theorem find_code (base gb : Nat) (rv : Value) (z : Int) (P : List Nat) (rs : List Rl) (nm : List UInt8) (w : World) (hg : w.heap[gb]? = some (.cells #[rv, .int .i64 z] 66)) (hO : w.ownsRow base 69 3 rv rs.length (rs.flatMap (rlC P))) (hl : rs.length ≤ 8) :
    Calls Try.prog 25 #[.pointer (some ⟨gb, 0, none⟩), .string (ba nm)] w fun e w' => e = .returned (.int .i64 (fnd rs nm)) ∧ Kept (fun _ => False) w w' := by
  have hmf : ∀ (fn : Fn) (first cap : Array Value) (w : World), (Instr.makeFunc fn first cap).run Try.prog w = .ok (.func fn first cap) w := fun _ _ _ _ => rfl
  obtain ⟨p, cap, hrv⟩ := ownsRow_form hO
  obtain ⟨g0, g1, gf0, gf1⟩ := cells2 hg
  have hgl := cell_lt g0
  have hne : gb ≠ w.heap.size := fun e => by subst e; exact Nat.lt_irrefl _ hgl
  have hix := indexRule_any base rv P rs nm w.heap.size (w.alloc (.cells #[.string (ba nm)] 9)) (by unfold World.cell?; rw [heap_alloc_new]; rfl) (hO.alloc _) hl
  subst hrv
  go_enter Try.func25, Try.ntmps25
  go_wp2_with fail
  refine hix.mono ?_
  rintro e w1 ⟨rfl, hK⟩
  go_wp2
  go_ret
  exact ⟨rfl, ((Kept.refl _ w).alloc _).trans hK⟩
end Go.Proofs.Ytagklnaaoclmhaa
