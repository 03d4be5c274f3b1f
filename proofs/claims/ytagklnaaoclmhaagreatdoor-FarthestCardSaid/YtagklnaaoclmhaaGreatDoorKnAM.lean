import Derived.Test.YtagklnaaoclmhaaGreatDoorMgBC
set_option linter.unusedSimpArgs false
set_option linter.unusedVariables false
namespace Go.Proofs.YtagklnaaoclmhaaGreatDoor
open Go.RowKit

/-- An answer in memory. -/
structure AnA (w : World) (v : Value) (B : Bool) (T F : Int) (nt nf : Nat) (tc fc : Nat → Int) : Prop where
  ex : ∃ (tp : Option Addr) (tk : Nat) (fp : Option Addr) (fk : Nat), v = .agg #[.bool B, .int .i64 T, .slice tp nt tk, .int .i64 F, .slice fp nf fk] ∧
    (∀ k, k < nt * 4 → ∃ b, tp = some ⟨b, 0, none⟩ ∧ w.cell? ⟨b, k, none⟩ = some (.int .i64 (tc k))) ∧
    (∀ k, k < nf → ∃ b, fp = some ⟨b, 0, none⟩ ∧ w.cell? ⟨b, k, none⟩ = some (.int .i64 (fc k)))
  le : nt ≤ 100000 ∧ nf ≤ 100000
theorem AnA.kept {w w' : World} {v : Value} {B : Bool} {T F : Int} {nt nf : Nat} {tc fc : Nat → Int} (h : AnA w v B T F nt nf tc fc) (hk : Kept (fun _ => False) w w') : AnA w' v B T F nt nf tc fc := by
  obtain ⟨tp, tk, fp, fk, h1, h2, h3⟩ := h.ex
  refine ⟨⟨tp, tk, fp, fk, h1, fun k hk' => ?_, fun k hk' => ?_⟩, h.le⟩
  · obtain ⟨b, h4, h5⟩ := h2 k hk'
    exact ⟨b, h4, (hk.cell (p := ⟨b, k, none⟩) (lt_cell h5) (fun x => x)).trans h5⟩
  · obtain ⟨b, h4, h5⟩ := h3 k hk'
    exact ⟨b, h4, (hk.cell (p := ⟨b, k, none⟩) (lt_cell h5) (fun x => x)).trans h5⟩
set_option maxRecDepth 100000 in
set_option maxHeartbeats 6400000 in
theorem same_any {w : World} {v1 v2 : Value} {B : Bool} {T F : Int} {nt nf : Nat} {tc fc : Nat → Int} (h1 : AnA w v1 B T F nt nf tc fc) (h2 : AnA w v2 B T F nt nf tc fc) :
    Calls Tryz.prog 20 #[v1, v2] w fun e w' => e = .returned (.bool true) ∧ Kept (fun _ => False) w w' := by
  obtain ⟨tp, tk, fp, fk, rfl, ht1, hf1⟩ := h1.ex
  obtain ⟨tp', tk', fp', fk', rfl, ht2, hf2⟩ := h2.ex
  obtain ⟨hnt, hnf⟩ := h1.le
  obtain ⟨w2, hw2⟩ : ∃ w2, w2 = (w.alloc (.cells #[.bool B, .int .i64 T, .slice tp nt tk, .int .i64 F, .slice fp nf fk] 31)).alloc (.cells #[.bool B, .int .i64 T, .slice tp' nt tk', .int .i64 F, .slice fp' nf fk'] 31) := ⟨_, rfl⟩
  have hK2 : Kept (fun _ => False) w w2 := by rw [hw2]; exact ((Kept.refl _ w).alloc _).alloc _
  have hq1 : w2.heap[w.heap.size]? = some (.cells #[.bool B, .int .i64 T, .slice tp nt tk, .int .i64 F, .slice fp nf fk] 31 (0, 0)) := by
    rw [hw2, Below.heap_alloc _ _ _ (by simp)]; exact heap_alloc_new _ _
  have hq2 : w2.heap[w.heap.size + 1]? = some (.cells #[.bool B, .int .i64 T, .slice tp' nt tk', .int .i64 F, .slice fp' nf fk'] 31 (0, 0)) := by
    rw [hw2]
    have := heap_alloc_new (w.alloc (.cells #[.bool B, .int .i64 T, .slice tp nt tk, .int .i64 F, .slice fp nf fk] 31)) (.cells #[.bool B, .int .i64 T, .slice tp' nt tk', .int .i64 F, .slice fp' nf fk'] 31)
    simpa using this
  obtain ⟨x0, x1, x2, x3, x4⟩ := cells5 hq1
  obtain ⟨y0, y1, y2, y3, y4⟩ := cells5 hq2
  have HT : Hid (∀ k, k < nt → ∃ b b', tp = some ⟨b, 0, none⟩ ∧ tp' = some ⟨b', 0, none⟩ ∧ (w2.cell? ⟨b, k * 4, none⟩ = some (.int .i64 (tc (k * 4))) ∧ w2.cell? ⟨b, k * 4 + 1, none⟩ = some (.int .i64 (tc (k * 4 + 1))) ∧ w2.cell? ⟨b, k * 4 + 2, none⟩ = some (.int .i64 (tc (k * 4 + 2))) ∧ w2.cell? ⟨b, k * 4 + 3, none⟩ = some (.int .i64 (tc (k * 4 + 3)))) ∧
      (w2.cell? ⟨b', k * 4, none⟩ = some (.int .i64 (tc (k * 4))) ∧ w2.cell? ⟨b', k * 4 + 1, none⟩ = some (.int .i64 (tc (k * 4 + 1))) ∧ w2.cell? ⟨b', k * 4 + 2, none⟩ = some (.int .i64 (tc (k * 4 + 2))) ∧ w2.cell? ⟨b', k * 4 + 3, none⟩ = some (.int .i64 (tc (k * 4 + 3))))) := fun k hk => by
    have up : ∀ b j v, w.cell? ⟨b, j, none⟩ = some v → w2.cell? ⟨b, j, none⟩ = some v := fun b j v h => (hK2.cell (p := ⟨b, j, none⟩) (lt_cell h) (fun x => x)).trans h
    obtain ⟨b, hb, h0⟩ := ht1 (k * 4) (by omega)
    obtain ⟨b', hb', h0'⟩ := ht2 (k * 4) (by omega)
    refine ⟨b, b', hb, hb', ⟨up _ _ _ h0, ?_, ?_, ?_⟩, ⟨up _ _ _ h0', ?_, ?_, ?_⟩⟩
    · obtain ⟨c, hc, h⟩ := ht1 (k * 4 + 1) (by omega); rw [hb] at hc; cases hc; exact up _ _ _ h
    · obtain ⟨c, hc, h⟩ := ht1 (k * 4 + 2) (by omega); rw [hb] at hc; cases hc; exact up _ _ _ h
    · obtain ⟨c, hc, h⟩ := ht1 (k * 4 + 3) (by omega); rw [hb] at hc; cases hc; exact up _ _ _ h
    · obtain ⟨c, hc, h⟩ := ht2 (k * 4 + 1) (by omega); rw [hb'] at hc; cases hc; exact up _ _ _ h
    · obtain ⟨c, hc, h⟩ := ht2 (k * 4 + 2) (by omega); rw [hb'] at hc; cases hc; exact up _ _ _ h
    · obtain ⟨c, hc, h⟩ := ht2 (k * 4 + 3) (by omega); rw [hb'] at hc; cases hc; exact up _ _ _ h
  have HF : Hid (∀ k, k < nf → ∃ b b', fp = some ⟨b, 0, none⟩ ∧ fp' = some ⟨b', 0, none⟩ ∧ w2.cell? ⟨b, k, none⟩ = some (.int .i64 (fc k)) ∧ w2.cell? ⟨b', k, none⟩ = some (.int .i64 (fc k))) := fun k hk => by
    have up : ∀ b j v, w.cell? ⟨b, j, none⟩ = some v → w2.cell? ⟨b, j, none⟩ = some v := fun b j v h => (hK2.cell (p := ⟨b, j, none⟩) (lt_cell h) (fun x => x)).trans h
    obtain ⟨b, hb, h0⟩ := hf1 k hk
    obtain ⟨b', hb', h0'⟩ := hf2 k hk
    exact ⟨b, b', hb, hb', up _ _ _ h0, up _ _ _ h0'⟩
  clear h1 h2 ht1 ht2 hf1 hf2
  go_enter Tryz.func20, Tryz.ntmps20
  go_wp2
  rw [← hw2]
  clear hw2
  go_loopg [5] nt (fun n v wx => ∃ k : Nat, v = .int .i64 (k : Int) ∧ Hid (k + n = nt) ∧ ∃ m, wx = w2.drewN m)
  case atStart => exact ⟨0, rfl, by unfold Hid; omega, 0, rfl⟩
  case round =>
    obtain ⟨k, rfl, HK, m, rfl⟩ := hrel
    obtain ⟨gj, hgj⟩ : ∃ m, m = gk := ⟨gk, rfl⟩
    subst hgj
    have hkn := HK.out
    by_cases hk : k < nt
    · obtain ⟨b, b', rfl, rfl, ⟨e0, e1, e2, e3⟩, ⟨g0, g1, g2, g3⟩⟩ := HT.out k hk
      generalize tc (k * 4) = t0 at *
      generalize tc (k * 4 + 1) = t1 at *
      generalize tc (k * 4 + 2) = t2 at *
      generalize tc (k * 4 + 3) = t3 at *
      have HM : Hid (gj - 1 < gj) := by unfold Hid; omega
      clear hkn
      go_wp2
      go_quiet (fail)
      go_wp2
      go_roundg (gj - 1)
      case measure => exact HM.out
      case rel => exact ⟨k + 1, by go_num, (by have := HK.out; unfold Hid; omega), by first | exact ⟨_, rfl⟩ | exact ⟨_, World.drewN_drewN ..⟩⟩
    · obtain ⟨w5, hw5⟩ : ∃ w5, w5 = w2.drewN m := ⟨_, rfl⟩
      have hK5 : Kept (fun _ => False) w2 w5 := by rw [hw5]; exact (Kept.refl _ w2).drewN m
      clear hkn
      go_wp2
      go_loopg [6] nf (fun n v wx => ∃ k : Nat, v = .int .i64 (k : Int) ∧ Hid (k + n = nf) ∧ ∃ m, wx = w2.drewN m)
      case atStart => exact ⟨0, rfl, by unfold Hid; omega, m, rfl⟩
      case round =>
        obtain ⟨k, rfl, HK, m, rfl⟩ := hrel
        obtain ⟨gj, hgj⟩ : ∃ m, m = gk := ⟨gk, rfl⟩
        subst hgj
        have hkn := HK.out
        by_cases hk : k < nf
        · obtain ⟨b, b', rfl, rfl, e0, g0⟩ := HF.out k hk
          generalize fc k = t0 at *
          have HM : Hid (gj - 1 < gj) := by unfold Hid; omega
          clear hkn
          go_wp2
          go_quiet (fail)
          go_wp2
          go_roundg (gj - 1)
          case measure => exact HM.out
          case rel => exact ⟨k + 1, by go_num, (by have := HK.out; unfold Hid; omega), by first | exact ⟨_, rfl⟩ | exact ⟨_, World.drewN_drewN ..⟩⟩
        · clear hkn
          go_wp2
          go_ret
          exact ⟨rfl, hK2.drewN m⟩
end Go.Proofs.YtagklnaaoclmhaaGreatDoor
