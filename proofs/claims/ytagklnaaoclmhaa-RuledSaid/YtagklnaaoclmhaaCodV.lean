import Derived.Test.YtagklnaaoclmhaaCodU
import Derived.Test.YtagklnaaoclmhaaPlnC
set_option linter.unusedSimpArgs false
set_option linter.unusedVariables false
namespace Go.Proofs.Ytagklnaaoclmhaa
open Go.RowKit

/-- The code's grammar in memory. -/
structure Gm (w : World) (base gb : Nat) (rv : Value) (P : List Nat) (ρ : Nat → Int) (rs : List Rl) (ns : List Nd) : Prop where
  gram : ∃ z : Int, w.heap[gb]? = some (.cells #[rv, .int .i64 z] 66)
  own : w.ownsRow base 69 3 rv rs.length (rs.flatMap (rlC P))
  ar : Ar w base (fun _ => True) P ρ ns

theorem Gm.kept {S : Nat → Prop} {w w' : World} {base gb : Nat} {rv : Value} {P : List Nat} {ρ : Nat → Int} {rs : List Rl} {ns : List Nd} (h : Gm w base gb rv P ρ rs ns) (hk : Kept S w w') (hs : ∀ j c t, S j → objAt w j = some (.cells c t (0, 0)) → t ≠ 66 ∧ t ≠ 69 ∧ t ≠ 79 ∧ t ≠ 67 ∧ t ≠ 118) : Gm w' base gb rv P ρ rs ns := by
  obtain ⟨z, hz⟩ := h.gram
  refine ⟨⟨z, ?_⟩, ?_, ⟨h.ar.len, h.ar.sub, fun i hi => ?_, h.ar.nd, h.ar.low⟩⟩
  · rw [hk.block gb (objAt_lt (show objAt w gb = _ from hz)) (fun x => (hs _ _ _ x hz).1 rfl)]; exact hz
  · exact own_kept h.own hk (fun j hj x => by
      obtain ⟨c, hc⟩ := ownsRow_obj h.own hj
      exact (hs _ _ _ x hc).2.1 rfl)
  · obtain ⟨z1, vR, vP, h1, h2, h3, h4, h5, h6⟩ := h.ar.part i hi
    refine ⟨z1, vR, vP, ?_, trivial, own_kept h3 hk (fun j hj x => ?_), fun _ _ => trivial, own_kept h5 hk (fun j hj x => ?_), fun _ _ => trivial⟩
    · rw [hk.block _ (objAt_lt (show objAt w _ = _ from h1)) (fun x => (hs _ _ _ x h1).2.2.1 rfl)]; exact h1
    · obtain ⟨c, hc⟩ := ownsRow_obj h3 hj
      exact (hs _ _ _ x hc).2.2.2.2 rfl
    · obtain ⟨c, hc⟩ := ownsRow_obj h5 hj
      exact (hs _ _ _ x hc).2.2.2.1 rfl
theorem Gm.same {w w' : World} {base gb : Nat} {rv : Value} {P : List Nat} {ρ : Nat → Int} {rs : List Rl} {ns : List Nd} (h : Gm w base gb rv P ρ rs ns) (hk : Kept (fun _ => False) w w') : Gm w' base gb rv P ρ rs ns := h.kept hk (fun _ _ _ x => x.elim)

/-- A part is told its rule. -/
theorem Gm.setRule {w : World} {base gb : Nat} {rv : Value} {P : List Nat} {ρ : Nat → Int} {rs : List Rl} {ns : List Nd} (h : Gm w base gb rv P ρ rs ns) {i : Nat} (hi : i < ns.length) (r : Int) : Gm (w.setCell ⟨P.getD i 0, 1, none⟩ (.int .i64 r)) base gb rv P (fun j => if j = i then r else ρ j) rs ns := by
  obtain ⟨z, hz⟩ := h.gram
  obtain ⟨z0, wR, wP, e1, _⟩ := h.ar.part i hi
  have hk : Kept (· = P.getD i 0) w (w.setCell ⟨P.getD i 0, 1, none⟩ (.int .i64 r)) := (Kept.refl (· = P.getD i 0) w).setCell (p := ⟨P.getD i 0, 1, none⟩) (fun _ => rfl) _
  have hty : ∀ (e size n : Nat) (v : Value) (xs : List Value), e ≠ 79 → w.ownsRow base e size v n xs → ∀ j, v.ownBlock = some j → ¬ j = P.getD i 0 := by
    intro e size n v xs he ho j hv hj
    subst hj
    obtain ⟨c, hc⟩ := ownsRow_obj ho hv
    rw [show objAt w (P.getD i 0) = _ from e1] at hc
    simp at hc
    exact he hc.2.symm
  refine ⟨⟨z, ?_⟩, own_kept h.own hk (hty _ _ _ _ _ (by decide) h.own), ⟨h.ar.len, h.ar.sub, fun j hj => ?_, h.ar.nd, h.ar.low⟩⟩
  · rw [hk.block gb (objAt_lt (show objAt w gb = _ from hz)) (fun x => by
      have x' : gb = P.getD i 0 := x
      rw [← x', hz] at e1
      simp at e1)]
    exact hz
  · obtain ⟨z1, vR, vP, h1, h2, h3, h4, h5, h6⟩ := h.ar.part j hj
    by_cases hij : j = i
    · subst hij
      simp only [if_true]
      refine ⟨z1, vR, vP, ?_, trivial, own_kept h3 hk (hty _ _ _ _ _ (by decide) h3), fun _ _ => trivial, own_kept h5 hk (hty _ _ _ _ _ (by decide) h5), fun _ _ => trivial⟩
      rw [heap_set_at h1]
      simp [ptB]
    · simp only [if_neg hij]
      refine ⟨z1, vR, vP, ?_, trivial, own_kept h3 hk (hty _ _ _ _ _ (by decide) h3), fun _ _ => trivial, own_kept h5 hk (hty _ _ _ _ _ (by decide) h5), fun _ _ => trivial⟩
      rw [hk.block _ (objAt_lt (show objAt w _ = _ from h1)) (fun x => hij ?_)]
      · exact h1
      · have hjl : j < P.length := by rw [h.ar.len]; exact hj
        have hil : i < P.length := by rw [h.ar.len]; exact hi
        have x' : P.getD j 0 = P.getD i 0 := x
        simp only [List.getD, List.getElem?_eq_getElem hjl, List.getElem?_eq_getElem hil, Option.getD_some] at x'
        exact (List.getElem_inj h.ar.nd).1 x'

/-- What is read of the mentions. -/
theorem mn_cells {w : World} {base : Nat} {mv : Value} {P : List Nat} {ms : List Mn} (h : w.ownsRow base 74 3 mv ms.length (ms.flatMap (mnC P))) {k : Nat} (hk : k < ms.length) :
    ∃ g cap, mv = .slice (some ⟨g, 0, none⟩) ms.length cap ∧ w.cell? ⟨g, k * 3, none⟩ = some (.string (ba ms[k].name)) ∧ w.cell? ⟨g, k * 3 + 1, none⟩ = some (.int .i64 (ms[k].at_ : Int)) ∧ w.cell? ⟨g, k * 3 + 2, none⟩ = some (.pointer (ms[k].part.map fun i => ⟨P.getD i 0, 0, none⟩)) := by
  obtain ⟨g, cap, hv, _, _⟩ := h.form (by omega)
  subst hv
  have hf : ∀ a : Mn, (mnC P a).length = 3 := fun _ => rfl
  refine ⟨g, cap, rfl, ?_, ?_, ?_⟩
  · rw [h.cellAt (k * 3) (by omega)]
    have := flat_get (mnC P) 3 hf ms k 0 (by omega) hk
    rw [Nat.add_zero] at this
    rw [this]; rfl
  · rw [h.cellAt (k * 3 + 1) (by omega), flat_get (mnC P) 3 hf ms k 1 (by omega) hk]; rfl
  · rw [h.cellAt (k * 3 + 2) (by omega), flat_get (mnC P) 3 hf ms k 2 (by omega) hk]; rfl

/-- What resolve leaves. -/
structure RsOut (base gb : Nat) (rv : Value) (P : List Nat) (rs : List Rl) (ns : List Nd) (w : World) (e : Ending) (w' : World) : Prop where
  ok : mis rs ns < 0 → e = .returned (.tuple #[.int .i64 0, .bool true]) ∧ ∃ ρ, Gm w' base gb rv P ρ rs ns ∧ ∀ i, i < ns.length → (nth ns i).kind = 3 → ρ i = (ruI rs (nth ns i) : Int)
  no : 0 ≤ mis rs ns → e = .returned (.tuple #[.int .i64 (mis rs ns), .bool false])
  kept : Kept (fun k => ∃ i, i < ns.length ∧ P.getD i 0 = k) w w'

/-- Names that are being resolved. -/
structure RsI (base gb : Nat) (rv mv : Value) (P : List Nat) (ms : List Mn) (rs : List Rl) (ns : List Nd) (w : World) (k : Nat) (ρ : Nat → Int) (wx : World) : Prop where
  gm : Gm wx base gb rv P ρ rs ns
  own : wx.ownsRow base 74 3 mv ms.length (ms.flatMap (mnC P))
  good : ∀ j (h : j < ms.length), j < k → badM rs ms[j] = false
  told : ∀ j (h : j < ms.length), j < k → ∀ i, ms[j].part = some i → ρ i = (ruI rs (nth ns i) : Int)
  kept : Kept (fun k => ∃ i, i < ns.length ∧ P.getD i 0 = k) w wx

theorem RsI.same {w w' : World} {base gb k : Nat} {rv mv : Value} {P : List Nat} {ms : List Mn} {ρ : Nat → Int} {rs : List Rl} {ns : List Nd} {wx : World} (h : RsI base gb rv mv P ms rs ns w k ρ wx) (hk : Kept (fun _ => False) wx w') : RsI base gb rv mv P ms rs ns w k ρ w' :=
  ⟨h.gm.same hk, own_kept h.own hk (fun _ _ x => x), h.good, h.told, h.kept.trans (hk.mono (fun _ _ x => x.elim))⟩

set_option maxRecDepth 100000 in
set_option maxHeartbeats 3200000 in
theorem resolve_code (base gb p : Nat) (rv mv : Value) (P : List Nat) (ms : List Mn) (rs : List Rl) (ns : List Nd) (w : World) (hG : Gm w base gb rv P (fun _ => 0) rs ns) (hO : w.ownsRow base 74 3 mv ms.length (ms.flatMap (mnC P))) (hM : MsOk ms rs ns p) (hl : rs.length ≤ 8) (hml : ms.length ≤ 5000) :
    Calls Try.prog 14 #[.pointer (some ⟨gb, 0, none⟩), mv] w fun e w' => RsOut base gb rv P rs ns w e w' := by
  obtain ⟨mp, mc, hmv⟩ := ownsRow_form hO
  subst hmv
  go_enter Try.func14, Try.ntmps14
  go_wp2
  go_loopg [11] ms.length (fun n i wx => ∃ k ρ, Hid (k + n = ms.length) ∧ i = .int .i64 (k : Nat) ∧ RsI base gb rv (.slice mp ms.length mc) P ms rs ns w k ρ wx)
  case atStart => exact ⟨0, fun _ => 0, Nat.zero_add _, rfl, hG, hO, fun j _ h => absurd h (by omega), fun j _ h => absurd h (by omega), Kept.refl _ _⟩
  case round =>
    obtain ⟨k, ρ, hkn, rfl, hI⟩ := hrel
    obtain ⟨m, hm⟩ : ∃ m, m = gk := ⟨gk, rfl⟩
    subst hm
    by_cases hlt : k < ms.length
    · obtain ⟨mb, cap', hmv, r0, r1, r2⟩ := mn_cells hI.own hlt
      simp only [Value.slice.injEq] at hmv
      obtain ⟨hp, _, hcap⟩ := hmv
      subst hp hcap
      have hmem := (hM.mem ms[k]).1 (List.getElem_mem hlt)
      have hI8 := fun o => hI.same ((Kept.refl (fun _ => False) wr).alloc o)
      have hfirst := hM.first hlt hI.good
      have hgood := hI.good
      have htold := hI.told
      obtain ⟨mk, hmk⟩ : ∃ x, x = ms[k] := ⟨_, rfl⟩
      rw [← hmk] at r0 r1 r2 hmem hfirst
      obtain ⟨nm, at_, pt⟩ := mk
      dsimp only at *
      have hmbl := cell_lt r0
      cases pt with
      | none =>
        simp only [Option.map_none] at r2
        have hI9 := hI8 (.cells #[.string (ba nm), .int .i64 (at_ : Int), .pointer none] 74)
        obtain ⟨z, hz⟩ := hI9.gm.gram
        have hfind := find_code base gb rv z P rs nm _ hz hI9.gm.own hl
        go_wp2_with fail
        refine hfind.mono ?_
        rintro e w7 ⟨rfl, hK7⟩
        have hI7 := hI9.same hK7
        have hk7 : w7.heap[wr.heap.size]? = some (.cells #[.string (ba nm), .int .i64 (at_ : Int), .pointer none] 74) := by
          rw [hK7.block _ (by simp) (fun h => h)]; exact heap_alloc_new _ _
        obtain ⟨x0, x1, x2, xf0, xf1, xf2⟩ := cells3 hk7
        obtain ⟨i0, hfi, hi0⟩ : ∃ i0, fndI rs nm = some i0 ∧ i0 < rs.length := by
          rcases hmem with ⟨_, r, hr, hrn, _⟩ | ⟨i, hi, _⟩
          · obtain ⟨j, hj, rfl⟩ := List.getElem_of_mem hr
            obtain ⟨i0, h1, _⟩ := fndI_own hj
            rw [hrn] at h1
            exact ⟨i0, h1, fndI_lt h1⟩
          · cases hi
        have hfe : fnd rs nm = (i0 : Int) := by unfold fnd; rw [hfi]
        obtain ⟨rb, rcap, hrv, q0, q1, q2⟩ := rl_cells hI7.gm.own hi0
        obtain ⟨z7, hz7⟩ := hI7.gm.gram
        obtain ⟨g0, g1, gf0, gf1⟩ := cells2 hz7
        have hbm : badM rs ⟨nm, at_, none⟩ = decide (rs[i0].at_ ≠ at_) := by
          unfold badM
          simp only [hfi, Option.getD_some]
          rw [map_getD _ _ _ _ hi0]
        rw [hfe]
        rw [hrv] at g0
        have hkI := hI7.kept
        obtain ⟨ra, hra⟩ : ∃ ra, ra = rs[i0].at_ := ⟨_, rfl⟩
        rw [← hra] at q1 hbm
        clear hra r0 r1 r2 hz hfind hI9 hI8
        by_cases hat : ra = at_
        · have qq : ((ra : Int) != (at_ : Int)) = false := by simp [hat]
          have HB : Hid (badM rs ⟨nm, at_, none⟩ = false) := by unfold Hid; rw [hbm]; simp [hat]
          have HI := hide hI7
          clear hat hbm hfirst
          go_wp2
          go_quiet (fail)
          go_wp2
          go_roundg (m - 1)
          case measure => have := hkn.out; omega
          case rel =>
            have hI10 := HI.out.same ((Kept.refl (fun _ => False) w7).drewN nq)
            refine ⟨k + 1, ρ, by have := hkn.out; unfold Hid; omega, by go_num, hI10.gm, hI10.own, fun j hj hjk => ?_, fun j hj hjk i hi => ?_, hI10.kept⟩
            · rcases Nat.lt_or_eq_of_le (Nat.lt_succ_iff.1 hjk) with h1 | h1
              · exact hgood j hj h1
              · subst h1; rw [← hmk]; exact HB.out
            · rcases Nat.lt_or_eq_of_le (Nat.lt_succ_iff.1 hjk) with h1 | h1
              · exact htold j hj h1 i hi
              · subst h1; rw [← hmk] at hi; cases hi
        · have qq : ((ra : Int) != (at_ : Int)) = true := by simp; omega
          have HB : Hid (mis rs ns = (at_ : Int)) := hfirst (by rw [hbm]; simpa using hat)
          clear hat hbm hfirst
          go_wp2
          go_quiet (fail)
          go_wp2
          go_ret2
          exact ⟨fun h => absurd h (by rw [HB.out]; omega), fun _ => by rw [HB.out]; rfl, hkI.drewN _⟩
      | some i =>
        simp only [Option.map_some] at r2
        have hI9 := hI8 (.cells #[.string (ba nm), .int .i64 (at_ : Int), .pointer (some ⟨P.getD i 0, 0, none⟩)] 74)
        obtain ⟨z, hz⟩ := hI9.gm.gram
        have hfind := find_code base gb rv z P rs nm _ hz hI9.gm.own hl
        obtain ⟨hin, hik, hinm⟩ : i < ns.length ∧ (nth ns i).kind = 3 ∧ (nth ns i).name = nm := by
          rcases hmem with ⟨h, _⟩ | ⟨j, hj, h1, h2, h3, h4⟩
          · cases h
          · have := Option.some.inj hj
            subst this
            exact ⟨h1, h2, h3⟩
        obtain ⟨pi, hpi⟩ : ∃ pi, pi = P.getD i 0 := ⟨_, rfl⟩
        rw [← hpi] at r2 hI9 hfind
        have HPI := hide hpi
        clear hpi
        go_wp2_with fail
        refine hfind.mono ?_
        rintro e w7 ⟨rfl, hK7⟩
        have hI7 := hI9.same hK7
        have hk7 : w7.heap[wr.heap.size]? = some (.cells #[.string (ba nm), .int .i64 (at_ : Int), .pointer (some ⟨pi, 0, none⟩)] 74) := by
          rw [hK7.block _ (by simp) (fun h => h)]; exact heap_alloc_new _ _
        obtain ⟨x0, x1, x2, xf0, xf1, xf2⟩ := cells3 hk7
        have hkI := hI7.kept
        cases hfi : fndI rs nm with
        | none =>
          have hfe : fnd rs nm = -1 := by unfold fnd; rw [hfi]
          have HB : Hid (mis rs ns = (at_ : Int)) := hfirst (by unfold badM; simp [hfi])
          rw [hfe]
          clear hfirst hfind hI9 hI8 r0 r1 r2 hz
          go_wp2
          go_quiet (fail)
          go_wp2
          go_ret2
          exact ⟨fun h => absurd h (by rw [HB.out]; omega), fun _ => by rw [HB.out]; rfl, hkI.drewN _⟩
        | some i0 =>
          have hfe : fnd rs nm = (i0 : Int) := by unfold fnd; rw [hfi]
          have HB : Hid (badM rs ⟨nm, at_, some i⟩ = false) := by unfold Hid badM; simp [hfi]
          have HR : Hid ((i0 : Int) = (ruI rs (nth ns i) : Int)) := by unfold Hid ruI; rw [hinm, hfi]; rfl
          have HI := hide hI7
          have hpc : w7.cell? ⟨pi, 1, none⟩ = some (.int .i64 (ρ i)) ∧ w7.frozen? ⟨pi, 1, none⟩ = false := by
            obtain ⟨z1, vR, vP, h1, _⟩ := hI7.gm.ar.part i hin
            rw [← HPI.out] at h1
            constructor <;> simp [World.cell?, World.frozen?, h1, ptB]
          obtain ⟨pc0, pc1⟩ := hpc
          have hi0 : ¬ (i0 : Int) < 0 := by omega
          rw [hfe]
          clear hfirst hfind hI9 hI8 r0 r1 r2 hz hfe
          go_wp2
          go_quiet (fail)
          go_wp2
          go_roundg (m - 1)
          case measure => have := hkn.out; omega
          case rel =>
            have hI10 := HI.out.same ((Kept.refl (fun _ => False) w7).drewN nq)
            have hgm := hI10.gm.setRule hin (i0 : Int)
            rw [← HPI.out] at hgm
            refine ⟨k + 1, _, by have := hkn.out; unfold Hid; omega, by go_num, hgm, own_kept hI10.own ((Kept.refl (· = pi) _).setCell (p := ⟨pi, 1, none⟩) (fun _ => rfl) _) (fun j hj e => ?_), fun j hj hjk => ?_, fun j hj hjk i' hi' => ?_, hI10.kept.setCell (p := ⟨pi, 1, none⟩) (fun _ => ⟨i, hin, HPI.out.symm⟩) _⟩
            · obtain ⟨c, hc⟩ := ownsRow_obj hI10.own hj
              obtain ⟨z1, vR, vP, h1, _⟩ := hI10.gm.ar.part i hin
              have e' : j = pi := e
              rw [← HPI.out, ← e', show (w7.drewN nq).heap[j]? = _ from hc] at h1
              simp at h1
            · rcases Nat.lt_or_eq_of_le (Nat.lt_succ_iff.1 hjk) with h1 | h1
              · exact hgood j hj h1
              · subst h1; rw [← hmk]; exact HB.out
            · by_cases hii : i' = i
              · rw [if_pos hii, hii]; exact HR.out
              · rw [if_neg hii]
                rcases Nat.lt_or_eq_of_le (Nat.lt_succ_iff.1 hjk) with h1 | h1
                · exact htold j hj h1 i' hi'
                · subst h1; rw [← hmk] at hi'; exact absurd (Option.some.inj hi').symm hii
    · have HB : Hid (mis rs ns < 0) := hM.none (fun j hj => hI.good j hj (by omega))
      have HI := hide hI
      clear hI
      go_wp2
      go_ret2
      refine ⟨fun _ => ⟨rfl, ρ, HI.out.gm, fun i hi hk3 => ?_⟩, fun h => absurd HB.out (by omega), HI.out.kept⟩
      have hmem := (hM.mem ⟨(nth ns i).name, (nth ns i).at_, some i⟩).2 (.inr ⟨i, rfl, hi, hk3, rfl, rfl⟩)
      obtain ⟨j, hj, he⟩ := List.getElem_of_mem hmem
      exact HI.out.told j hj (by omega) i (by rw [he])
end Go.Proofs.Ytagklnaaoclmhaa
