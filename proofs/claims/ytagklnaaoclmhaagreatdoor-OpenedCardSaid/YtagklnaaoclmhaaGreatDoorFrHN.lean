import Derived.Lib.SmallJoins
import Derived.Test.YtagklnaaoclmhaaGreatDoorFrAN
set_option linter.unusedSimpArgs false
set_option linter.unusedVariables false
namespace Go.Proofs.YtagklnaaoclmhaaGreatDoor
open Go.ChangeShapes Go.WideShapes Go.ChangeAt Go.RowKit
open Go.ChangeMaps (open_string shut_string)
def D7 : Prop := ∀ (a0 : ByteArray) (Vd ZV ZW ZX : Int) (a2 : ByteArray) (w : World), a0.size ≤ maxLen → a2.size ≤ maxLen → TabAt 0 Lib.deBruijn64tab w → Calls Tryz.prog 3 #[.string a0, .agg #[.int .i64 Vd, .int .i64 ZV, .int .i64 ZW, .int .i64 ZX], .string a2] w fun e w' => e = .returned (.bool true) ∧ aa (fun _ => False) w w'
set_option maxRecDepth 100000 in
theorem wE (hwalk : D7) (os : Os) (started : os.Started) (H : Type) (enc : TypeId × Value → H) :
    ReturnsInHanded {} Tryz.checked os 3 .any (fun w args => (Rows.openedSpec.pre enc Tryz.prog Tryz.f3 [] false w args ∧ laidMetH Tryz.prog A7 w) ∧ sizedMet enc Tryz.prog Tryz.f3 (OpenSpec.ofChange Rows.openedSpec) false w args) (Rows.openedSpec.post enc Tryz.prog Tryz.f3 false true false false) := by
  refine returnsInHanded_of_change_and (C := Tryz.checked) (X := fun w _ => laidMetH Tryz.prog A7 w) (fun _ _ _ hh h => h.of_heap hh) own started (by kernel_rfl) Tryz.func3
    (ChangeSpec.witness_shaped (enc := enc) (C := Tryz.checked) (os := os) (X := fun w _ => laidMetH Tryz.prog A7 w) false (World.doorLaid Tryz.prog 400 os) #[.string ByteArray.empty, .agg #[.int .i64 0, .int .i64 0, .int .i64 0, .int .i64 0], .string ByteArray.empty] 8 rfl (World.shaped_of_RefB (by kernel_rfl) (by kernel_rfl)) (by kernel_rfl) (by kernel_rfl) (by kernel_rfl) (Ju os _)) ?_
  intro W base args ds gs before hval0 hW _ _ hL _
  have OM : ∀ (j : Nat) t v, Tryz.f3.params[j]? = some t → args[j]? = some v → Value.okWide Tryz.prog W .any base t v := hval0
  have Ay := hW
  obtain ⟨p, q, MZ, hV, rfl, Na, ts⟩ := hW
  have hA : DataW.TrodAll enc Tryz.prog W 0 (fun _ => true) true Tryz.f3.params.toList args.toList ds p := MZ
  rw [Tryz.params3] at hA OM
  obtain ⟨v0, vs0, d0, ds0, p0, q0, J7, rfl, rfl, h0, r0'⟩ := trodAll_cons hA
  obtain ⟨v1, vs1, d1, ds1, p1, q1, rfl, rfl, rfl, h1, r1'⟩ := trodAll_cons r0'
  obtain ⟨v2, vs2, d2, ds2, p2, q2, rfl, rfl, rfl, h2, r2'⟩ := trodAll_cons r1'
  obtain ⟨rfl, rfl, rfl⟩ := trodAll_nil r2'
  obtain rfl : args = #[v0, v1, v2] := by cases args; simp_all
  obtain ⟨rfl, rfl⟩ := trodVars_none hV
  obtain ⟨a0, rfl, rfl, rfl, w0⟩ := open_string Tryz.underlying9 (OM 0 9 v0 rfl rfl) h0
  obtain ⟨k0, k1, k2, k3, y0, y1, y2, y3, mm, rfl, rfl, rfl, hy0, hy1, hy2, Ys⟩ := Go.Joins.open_agg4 Tryz.underlying23 (by kernel_rfl) (show Tryz.prog.cellsOf 23 = 4 by kernel_rfl) (OM 1 23 v1 rfl rfl) h1
  obtain ⟨Vd, e0, rfl, u0⟩ := DataW.trod_int Tryz.underlying3 hy0
  obtain ⟨ZV, e1, rfl, u1⟩ := DataW.trod_int Tryz.underlying3 hy1
  obtain ⟨ZW, e2, rfl, u2⟩ := DataW.trod_int Tryz.underlying3 hy2
  obtain ⟨ZX, e3, rfl, u3⟩ := DataW.trod_int Tryz.underlying3 Ys
  simp at e0 e1 e2 e3
  subst e0 e1 e2 e3
  obtain ⟨a2, rfl, rfl, rfl, w2⟩ := open_string Tryz.underlying9 (OM 2 9 v2 rfl rfl) h2
  have hT := BR hL
  clear MZ hval0
  simp only [List.append_nil] at Ay
  refine (hwalk a0 Vd ZV ZW ZX a2 W w0 w2 hT).mono fun e W' ⟨he, hg⟩ => ?_
  subst he
  exact ⟨_, rfl, Hj Ay (fun _ _ _ => (trodAll_cons_mk (shut_bool Tryz.underlying4 _) trodAll_mk0)) (fun sp => (trodAll_cons_mk (shut_string Tryz.underlying9 w0) (trodAll_cons_mk (Go.Joins.shut_agg4 (y0 := (.lit (.int .i64 Vd), [])) (y1 := (.lit (.int .i64 ZV), [])) (y2 := (.lit (.int .i64 ZW), [])) (y3 := (.lit (.int .i64 ZX), [])) Tryz.underlying23 (by kernel_rfl) (show Tryz.prog.cellsOf 23 = 4 by kernel_rfl) ⟨1, by simp [DataW.trod, Tryz.underlying3, u0]⟩ ⟨1, by simp [DataW.trod, Tryz.underlying3, u1]⟩ ⟨1, by simp [DataW.trod, Tryz.underlying3, u2]⟩ ⟨1, by simp [DataW.trod, Tryz.underlying3, u3]⟩) (trodAll_cons_mk (shut_string Tryz.underlying9 w2) trodAll_mk0)))) (fun _ => rfl) (Lg hg) (ok_one (by kernel_rfl) rfl (okWide_bool_mk Tryz.underlying4 _))⟩
theorem Bt (hwalk : D7) : Rows.OpenedSaid :=
  OpenClaim.holds_of_wide 3 Tryz.f3 rfl rfl rfl rfl rfl rfl rfl ⟨rfl, rfl, rfl, rfl, rfl⟩ rfl rfl rfl rfl rfl (by kernel_rfl) Tryz.func3 (by kernel_rfl)
    (of_decide_eq_true (by kernel_rfl)) (by unfold Func.isWrapper; first | (rw [if_pos (by decide +kernel)]; kernel_rfl) | (rw [if_neg (by decide +kernel)]; exact ⟨rfl, rfl⟩))
    (fun os started H enc _ => wE hwalk os started H enc)
theorem Bs (h : Rows.OpenedSaid) : Rows.OpenedCardSaid :=
  sR [.data] true (true, "bbc03f41ecbe7b76f9bcf3cc66ee3904356dd5ccff16dd427f0f211f554c7768") false h (by kernel_rfl) opened_row_tie rfl ⟨rfl, rfl⟩ (by kernel_rfl) rfl
    (fun f fn hf xn => by
      obtain rfl : f = 3 := Option.some.inj ((show Tryz.prog.funcNamed "pegtable/pegtablelaw.Opened" = some 3 by kernel_rfl).symm.trans hf) |>.symm
      obtain rfl : fn = Tryz.f3 := (Option.some.inj (Tryz.func3.symm.trans xn)).symm
      exact ⟨by kernel_rfl, fun j t ht => by
        rw [Tryz.params3] at ht
        have hm : t ∈ [9, 23, 9] := by simpa using Array.mem_of_getElem? ht
        have sN : ([9, 23, 9].all fun u => !Tryz.prog.wantsStandIn u) = true := by kernel_rfl
        exact (show Tryz.prog.wantsStandIn t = false by simpa using List.all_eq_true.1 sN t hm)⟩)
    (by kernel_rfl)
end Go.Proofs.YtagklnaaoclmhaaGreatDoor
