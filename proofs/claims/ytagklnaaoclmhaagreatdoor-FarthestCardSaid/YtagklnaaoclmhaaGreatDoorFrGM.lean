import Derived.Test.YtagklnaaoclmhaaGreatDoorFrAM
import Derived.Test.YtagklnaaoclmhaaGreatDoorMgAM
set_option linter.unusedSimpArgs false
set_option linter.unusedVariables false
namespace Go.Proofs.YtagklnaaoclmhaaGreatDoor
open Go.ChangeShapes Go.WideShapes Go.ChangeAt Go.RowKit
open Go.ChangeMaps (open_string shut_string)


/-- A list of numbers, as it came in. -/
structure RwAt (w : World) (p : Option Addr) (n : Nat) (R : Nat → Int) : Prop where
  at_ : ∀ k, k < n → ∃ b o, p = some ⟨b, o, none⟩ ∧ w.cell? ⟨b, o + k, none⟩ = some (.int .i64 (R k))
  bd : ∀ k, k < n → -9223372036854775808 ≤ R k ∧ R k ≤ 9223372036854775807

set_option maxRecDepth 100000 in
theorem ints_in {H : Type} {enc : TypeId × Value → H} {W : World} {r : Reach} {base : Nat} {v : Value} {d : DataW H} {ps : List MemPlace} (hval : Value.okWide Tryz.prog W r base 29 v) (h : DataW.Trod enc Tryz.prog W 0 (fun _ => true) true 29 v d ps) :
    ∃ pr n cap R, v = .slice pr n cap ∧ n ≤ maxLen ∧ RwAt W pr n R ∧ ∀ (W' : World) (sp : Nat → Bool), Kept (fun _ => False) W W' → (∀ p ∈ ps, sp p.block = true) → DataW.Trod enc Tryz.prog W' 0 sp true 29 v d ps := by
  obtain ⟨a0, len, cap, rfl⟩ := Go.WideShapes.okWide_slice Tryz.underlying29 hval
  obtain ⟨fuel, hf⟩ := h
  have c3 : Tryz.prog.cellsOf 3 = 1 := by kernel_rfl
  rcases Go.ChangeShapes.open_ints Tryz.underlying29 Tryz.underlying3 c3 hf with ⟨hcs, hx⟩ | ⟨a, len', cap', zs, hcs, _, hle, hmx, hall, hx, hcell, hwf⟩
  · simp [Value.cells] at hcs
    obtain ⟨rfl, rfl, rfl⟩ := hcs
    simp only [Prod.mk.injEq] at hx
    obtain ⟨rfl, rfl⟩ := hx
    refine ⟨none, 0, 0, fun _ => 0, rfl, Nat.zero_le _, ⟨fun k hk => absurd hk (by omega), fun k hk => absurd hk (by omega)⟩, fun W' sp _ _ => ⟨2, ?_⟩⟩
    simp [DataW.trod, Tryz.underlying29, Value.cells]
  · simp [Value.cells] at hcs
    obtain ⟨rfl, rfl, rfl⟩ := hcs
    simp only [Prod.mk.injEq] at hx
    obtain ⟨rfl, rfl⟩ := hx
    simp only [if_true] at hall
    refine ⟨some a, len, cap, fun k => zs.getD k 0, rfl, by omega, ⟨fun k hk => ?_, fun k hk => ?_⟩, fun W' sp hK hsp => ⟨2, ?_⟩⟩
    · obtain ⟨b, off, rfl, hc⟩ := ints_at hcell (by omega)
      exact ⟨b, off, rfl, hc k (by omega)⟩
    · have hm : zs.getD k 0 ∈ zs := by
        rw [List.getD_eq_getElem?_getD, List.getElem?_eq_getElem (by omega)]
        exact List.getElem_mem _
      exact bounds_i64 (hwf _ hm)
    · refine shut_ints 0 Tryz.underlying29 Tryz.underlying3 c3 (Nat.zero_le _) hle hmx ?_ (fun i hi => ?_) hwf
      · by_cases hc0 : cap = 0
        · have : len = 0 := by omega
          rw [hall, hc0, this]; simp
        · have hm := hsp (.cell a.block a.off) (by
            rw [MemPlace.mem_row]
            exact ⟨0, by omega, by simp⟩)
          have hm' : sp a.block = true := hm
          rw [hm', if_pos rfl]; exact hall
      · have h1 := hcell i hi
        obtain ⟨b, off, rfl, hc⟩ := ints_at hcell (by omega)
        rw [← h1]
        rw [Go.WideShapes.add_plain] at h1 ⊢
        exact hK.cell (p := ⟨b, off + i, none⟩) (cell_lt h1) (fun x => x)
end Go.Proofs.YtagklnaaoclmhaaGreatDoor
