import Derived.Test.YtagklnaaoclmhaaGreatDoorFrAM
import Derived.Test.YtagklnaaoclmhaaGreatDoorMgAM
set_option linter.unusedSimpArgs false
set_option linter.unusedVariables false
namespace Go.Proofs.YtagklnaaoclmhaaGreatDoor
open Go.ChangeShapes Go.WideShapes Go.ChangeAt Go.RowKit
open Go.ChangeMaps (open_string shut_string)


/-- A list of numbers, as it came in. -/
structure RwAt (w : World) (p : Option Addr) (n : Nat) (R : Nat → Int) : Prop where
  at_ : ∀ k, k < n → ∃ b o, p = some ⟨b, o, none⟩ ∧ w.cell? ⟨b, o + k, none⟩ = some (.int .i64 (R k))
  bd : ∀ k, k < n → -9223372036854775808 ≤ R k ∧ R k ≤ 9223372036854775807

set_option maxRecDepth 100000 in
theorem ints_in {H : Type} {enc : TypeId × Value → H} {W : World} {r : Reach} {base : Nat} {v : Value} {d : DataW H} {ps : List MemPlace} (hval : Value.okWide Tryz.prog W r base 29 v) (h : DataW.Trod enc Tryz.prog W 0 (fun _ => true) true 29 v d ps) :
    ∃ pr n cap R, v = .slice pr n cap ∧ n ≤ maxLen ∧ RwAt W pr n R ∧ ∀ (W' : World) (sp : Nat → Bool), Kept (fun _ => False) W W' → (∀ p ∈ ps, sp p.block = true) → DataW.Trod enc Tryz.prog W' 0 sp true 29 v d ps := by
  obtain ⟨a0, len, cap, rfl⟩ := Go.WideShapes.okWide_slice Tryz.underlying29 hval
  obtain ⟨fuel, hf⟩ := h
  have c3 : Tryz.prog.cellsOf 3 = 1 := by kernel_rfl
  rcases Go.ChangeShapes.open_ints Tryz.underlying29 Tryz.underlying3 c3 hf with ⟨hcs, hx⟩ | ⟨a, len', cap', zs, hcs, _, hle, hmx, hall, hx, hcell, hwf⟩
  · simp [Value.cells] at hcs
    obtain ⟨rfl, rfl, rfl⟩ := hcs
    simp only [Prod.mk.injEq] at hx
    obtain ⟨rfl, rfl⟩ := hx
    refine ⟨none, 0, 0, fun _ => 0, rfl, Nat.zero_le _, ⟨fun k hk => absurd hk (by omega), fun k hk => absurd hk (by omega)⟩, fun W' sp _ _ => ⟨2, ?_⟩⟩
    simp [DataW.trod, Tryz.underlying29, Value.cells]
  · simp [Value.cells] at hcs
    obtain ⟨rfl, rfl, rfl⟩ := hcs
    simp only [Prod.mk.injEq] at hx
    obtain ⟨rfl, rfl⟩ := hx
    simp only [if_true] at hall
    refine ⟨some a, len, cap, fun k => zs.getD k 0, rfl, by omega, ⟨fun k hk => ?_, fun k hk => ?_⟩, fun W' sp hK hsp => ⟨2, ?_⟩⟩
    · obtain ⟨b, off, rfl, hc⟩ := ints_at hcell (by omega)
      exact ⟨b, off, rfl, hc k (by omega)⟩
    · have hm : zs.getD k 0 ∈ zs := by
        rw [List.getD_eq_getElem?_getD, List.getElem?_eq_getElem (by omega)]
        exact List.getElem_mem _
      exact bounds_i64 (hwf _ hm)
    · refine shut_ints 0 Tryz.underlying29 Tryz.underlying3 c3 (Nat.zero_le _) hle hmx ?_ (fun i hi => ?_) hwf
      · by_cases hc0 : cap = 0
        · have : len = 0 := by omega
          rw [hall, hc0, this]; simp
        · have hm := hsp (.cell a.block a.off) (by
            rw [MemPlace.mem_row]
            exact ⟨0, by omega, by simp⟩)
          have hm' : sp a.block = true := hm
          rw [hm', if_pos rfl]; exact hall
      · have h1 := hcell i hi
        obtain ⟨b, off, rfl, hc⟩ := ints_at hcell (by omega)
        rw [← h1]
        rw [Go.WideShapes.add_plain] at h1 ⊢
        exact hK.cell (p := ⟨b, off + i, none⟩) (cell_lt h1) (fun x => x)
def SummedW : Prop := ∀ (pr : Option Addr) (n cap : Nat) (R : Nat → Int) (c : Int) (w : World), RwAt w pr n R → n ≤ maxLen → -9223372036854775808 ≤ c → c ≤ 9223372036854775807 → TabAt 0 Lib.deBruijn64tab w → Calls Tryz.prog 7 #[.slice pr n cap, .int .i64 c] w fun e w' => e = .returned (.bool true) ∧ Kept (fun _ => False) w w'
set_option maxRecDepth 100000 in
theorem summed_lifted (hwalk : SummedW) (os : Os) (started : os.Started) (H : Type) (enc : TypeId × Value → H) :
    ReturnsInHanded {} Tryz.checked os 7 .any (fun w args => (Rows.summedSpec.pre enc Tryz.prog Tryz.f7 [] false w args ∧ laidMetH Tryz.prog laidT w) ∧ sizedMet enc Tryz.prog Tryz.f7 (OpenSpec.ofChange Rows.summedSpec) false w args) (Rows.summedSpec.post enc Tryz.prog Tryz.f7 false true false false) := by
  refine returnsInHanded_of_change_and (C := Tryz.checked) (X := fun w _ => laidMetH Tryz.prog laidT w) (fun _ _ _ hh h => h.of_heap hh) own started (by kernel_rfl) Tryz.func7
    (ChangeSpec.witness_shaped (enc := enc) (C := Tryz.checked) (os := os) (X := fun w _ => laidMetH Tryz.prog laidT w) false (World.doorLaid Tryz.prog 400 os) #[.slice none 0 0, .int .i64 0] 8 rfl (World.shaped_of_RefB (by kernel_rfl) (by kernel_rfl)) (by kernel_rfl) (by kernel_rfl) (by kernel_rfl) (door_met os _)) ?_
  intro W base args ds gs before hval0 hW _ _ hL _
  have hval : ∀ (j : Nat) t v, Tryz.f7.params[j]? = some t → args[j]? = some v → Value.okWide Tryz.prog W .any base t v := hval0
  have hW' := hW
  obtain ⟨p, q, hA0, hV, rfl, hfz, hnd⟩ := hW
  have hA : DataW.TrodAll enc Tryz.prog W 0 (fun _ => true) true Tryz.f7.params.toList args.toList ds p := hA0
  rw [Tryz.params7] at hA hval
  obtain ⟨v0, vs0, d0, ds0, p0, q0, hargs, rfl, rfl, h0, r0⟩ := trodAll_cons hA
  obtain ⟨v1, vs1, d1, ds1, p1, q1, rfl, rfl, rfl, h1, r1⟩ := trodAll_cons r0
  obtain ⟨rfl, rfl, rfl⟩ := trodAll_nil r1
  obtain rfl : args = #[v0, v1] := by cases args; simp_all
  obtain ⟨rfl, rfl⟩ := trodVars_none hV
  obtain ⟨a1, rfl, rfl, rfl, w1⟩ := open_int Tryz.underlying3 (hval 1 3 v1 rfl rfl) h1
  have hb := bounds_i64 w1
  have hT := tab_of_laid hL
  clear hA0 hval0
  have c3 : Tryz.prog.cellsOf 3 = 1 := by kernel_rfl
  simp only [List.append_nil] at hW'
  obtain ⟨pr, n, cap, R, rfl, hn, hR, hback⟩ := ints_in (hval 0 29 v0 rfl rfl) h0
  refine (hwalk pr n cap R a1 W hR hn hb.1 hb.2 hT).mono fun e W' ⟨he, hg⟩ => ?_
  subst he
  exact ⟨_, rfl, post_kept (pa := p0 ++ ([] ++ [])) (pv := []) hW' (fun _ _ _ => (trodAll_cons_mk (shut_bool Tryz.underlying4 _) trodAll_mk0)) (fun sp hsp => (trodAll_cons_mk (hback W' sp hg hsp) (trodAll_cons_mk (shut_int Tryz.underlying3 w1) trodAll_mk0))) (fun _ _ => rfl) (by simp) hg (ok_one (by kernel_rfl) rfl (okWide_bool_mk Tryz.underlying4 _))⟩

theorem summed_over (hwalk : SummedW) : Rows.SummedSaid :=
  OpenClaim.holds_of_wide 7 Tryz.f7 rfl rfl rfl rfl rfl rfl rfl ⟨rfl, rfl, rfl, rfl, rfl⟩ rfl rfl rfl rfl rfl (by kernel_rfl) Tryz.func7 (by kernel_rfl)
    (of_decide_eq_true (by kernel_rfl)) (by unfold Func.isWrapper; first | (rw [if_pos (by decide +kernel)]; kernel_rfl) | (rw [if_neg (by decide +kernel)]; exact ⟨rfl, rfl⟩))
    (fun os started H enc _ => summed_lifted hwalk os started H enc)
theorem summed_card (h : Rows.SummedSaid) : Rows.SummedCardSaid :=
  holds_tied_goes [.data] true (true, "bbc03f41ecbe7b76f9bcf3cc66ee3904356dd5ccff16dd427f0f211f554c7768") false h (by kernel_rfl) summed_row_tie rfl ⟨rfl, rfl⟩ (by kernel_rfl) rfl
    (fun f fn hf hfn => by
      obtain rfl : f = 7 := Option.some.inj ((show Tryz.prog.funcNamed "pegtable/pegtablekeep.Summed" = some 7 by kernel_rfl).symm.trans hf) |>.symm
      obtain rfl : fn = Tryz.f7 := (Option.some.inj (Tryz.func7.symm.trans hfn)).symm
      exact ⟨by kernel_rfl, fun j t ht => by
        rw [Tryz.params7] at ht
        have hm : t ∈ [29, 3] := by simpa using Array.mem_of_getElem? ht
        have hall : ([29, 3].all fun u => !Tryz.prog.wantsStandIn u) = true := by kernel_rfl
        exact (show Tryz.prog.wantsStandIn t = false by simpa using List.all_eq_true.1 hall t hm)⟩)
    (by kernel_rfl)
end Go.Proofs.YtagklnaaoclmhaaGreatDoor
