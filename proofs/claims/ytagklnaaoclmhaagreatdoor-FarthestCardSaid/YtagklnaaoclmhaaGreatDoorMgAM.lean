import Derived.Test.YtagklnaaoclmhaaGreatDoorMgAL
import Derived.Test.YtagklnaaoclmhaaGreatDoorMgAB
set_option linter.unusedSimpArgs false
set_option linter.unusedVariables false
namespace Go.Proofs.YtagklnaaoclmhaaGreatDoor
open Go.RowKit

theorem cell_lt {w : World} {a : Addr} {v : Value} (h : w.cell? a = some v) : a.block < w.heap.size := by
  rcases Nat.lt_or_ge a.block w.heap.size with h1 | h1
  · exact h1
  · unfold World.cell? at h
    rw [Array.getElem?_eq_none h1] at h
    cases h
/-- What is read of the code's rules. -/
theorem rl_cells {w : World} {base : Nat} {rv : Value} {P : List Nat} {rs : List Rl} (h : w.ownsRow base 189 3 rv rs.length (rs.flatMap (rlC P))) {k : Nat} (hk : k < rs.length) :
    ∃ g cap, rv = .slice (some ⟨g, 0, none⟩) rs.length cap ∧ w.cell? ⟨g, k * 3, none⟩ = some (.string (ba rs[k].name)) ∧ w.cell? ⟨g, k * 3 + 1, none⟩ = some (.int .i64 (rs[k].at_ : Int)) ∧ w.cell? ⟨g, k * 3 + 2, none⟩ = some (ptrAt P rs[k].is) := by
  obtain ⟨g, cap, hv, _, _⟩ := h.form (by omega)
  subst hv
  have hf : ∀ a : Rl, (rlC P a).length = 3 := fun _ => rfl
  refine ⟨g, cap, rfl, ?_, ?_, ?_⟩
  · rw [h.cellAt (k * 3) (by omega)]
    have := flat_get (rlC P) 3 hf rs k 0 (by omega) hk
    rw [Nat.add_zero] at this
    rw [this]; rfl
  · rw [h.cellAt (k * 3 + 1) (by omega), flat_get (rlC P) 3 hf rs k 1 (by omega) hk]; rfl
  · rw [h.cellAt (k * 3 + 2) (by omega), flat_get (rlC P) 3 hf rs k 2 (by omega) hk]; rfl

set_option maxRecDepth 100000 in
set_option maxHeartbeats 800000 in
theorem find1_any (c0 nm : List UInt8) (c1 : Int) (c2 : Option Addr) (kb : Nat) (w : World) (hk : w.cell? ⟨kb, 0, none⟩ = some (.string (ba nm))) :
    Calls Tryz.prog 144 #[.agg #[.string (ba c0), .int .i64 c1, .pointer c2], .pointer (some ⟨kb, 0, none⟩)] w fun e w' => e = .returned (.bool (decide (c0 = nm))) ∧ Kept (fun _ => False) w w' := by
  have hlt := cell_lt hk
  have hne : kb ≠ w.heap.size := fun e => by subst e; exact Nat.lt_irrefl _ hlt
  have hk2 := hk
  have q : ((ba c0).toList == (ba nm).toList) = decide (c0 = nm) := by
    rw [ba_toList, ba_toList]
    by_cases h : c0 = nm <;> simp [h]
  go_enter Tryz.func144, Tryz.ntmps144
  go_wp2
  go_ret
  exact ⟨rfl, (Kept.refl _ _).alloc _⟩

set_option maxRecDepth 100000 in
set_option maxHeartbeats 1600000 in
theorem indexRule_any (base : Nat) (rv : Value) (P : List Nat) (rs : List Rl) (nm : List UInt8) (kb : Nat) (w : World) (hk : w.cell? ⟨kb, 0, none⟩ = some (.string (ba nm))) (hO : w.ownsRow base 189 3 rv rs.length (rs.flatMap (rlC P))) (hl : rs.length ≤ 8) :
    Calls Tryz.prog 143 #[rv, .func (.func 144) #[] #[.pointer (some ⟨kb, 0, none⟩)]] w fun e w' => e = .returned (.int .i64 (fnd rs nm)) ∧ Kept (fun _ => False) w w' := by
  obtain ⟨p, cap, hrv⟩ := ownsRow_form hO
  subst hrv
  have hkl := cell_lt hk
  go_enter Tryz.func143, Tryz.ntmps143
  go_wp2
  go_loopg [8] rs.length (fun n i wx => ∃ k : Nat, Hid (k + n = rs.length) ∧ i = .int .i64 k ∧ Hid (∀ j (h : j < rs.length), j < k → rs[j].name ≠ nm) ∧ Kept (fun _ => False) w wx)
  case atStart => exact ⟨0, Nat.zero_add _, rfl, fun j _ h => absurd h (by omega), Kept.refl _ _⟩
  case round =>
    obtain ⟨k, hkn, rfl, HA, hK⟩ := hrel
    obtain ⟨m, hm⟩ : ∃ m, m = gk := ⟨gk, rfl⟩
    subst hm
    have hO6 := own_kept hO hK (fun _ _ h => h)
    have hk6 : wr.cell? ⟨kb, 0, none⟩ = some (.string (ba nm)) := by rw [hK.cell (p := ⟨kb, 0, none⟩) hkl (fun h => h)]; exact hk
    by_cases hlt : k < rs.length
    · obtain ⟨gb, cap', hrv, r0, r1, r2⟩ := rl_cells hO6 hlt
      simp only [Value.slice.injEq] at hrv
      obtain ⟨hp, _, hcap⟩ := hrv
      subst hp hcap
      unfold ptrAt at r2
      have hf := find1_any rs[k].name nm (rs[k].at_ : Int) (some ⟨P.getD rs[k].is 0, 0, none⟩) kb wr hk6
      go_wp2_with fail
      refine hf.mono ?_
      rintro e w7 ⟨rfl, hK7⟩
      have hK8 := hK.trans hK7
      by_cases hnm : rs[k].name = nm
      · have q : decide (rs[k].name = nm) = true := by simpa using hnm
        have HF : Hid (fnd rs nm = (k : Int)) := by unfold Hid fnd; rw [fndI_some hlt hnm HA.out]
        rw [q]
        clear hnm HA q
        go_wp2
        go_ret
        exact ⟨by rw [HF.out]; rfl, hK8⟩
      · have q : decide (rs[k].name = nm) = false := by simpa using hnm
        have HF : Hid (∀ j (h : j < rs.length), j < k + 1 → rs[j].name ≠ nm) := fun j h hj => by
          rcases Nat.lt_or_eq_of_le (Nat.lt_succ_iff.1 hj) with h1 | h1
          · exact HA.out j h h1
          · subst h1; exact hnm
        rw [q]
        clear hnm HA q
        go_wp2
        go_roundg (m - 1)
        case measure => have := hkn.out; omega
        case rel => exact ⟨k + 1, by have := hkn.out; unfold Hid; omega, by go_num, HF, hK8⟩
    · have HF : Hid (fnd rs nm = -1) := by unfold Hid fnd; rw [fndI_none (fun j h => HA.out j h (by omega))]
      clear HA
      go_wp2
      go_ret
      exact ⟨by rw [HF.out]; rfl, hK⟩

set_option maxRecDepth 100000 in
set_option maxHeartbeats 800000 in
theorem find_code (base gb : Nat) (rv : Value) (z : Int) (P : List Nat) (rs : List Rl) (nm : List UInt8) (w : World) (hg : w.heap[gb]? = some (.cells #[rv, .int .i64 z] 150)) (hO : w.ownsRow base 189 3 rv rs.length (rs.flatMap (rlC P))) (hl : rs.length ≤ 8) :
    Calls Tryz.prog 97 #[.pointer (some ⟨gb, 0, none⟩), .string (ba nm)] w fun e w' => e = .returned (.int .i64 (fnd rs nm)) ∧ Kept (fun _ => False) w w' := by
  have hmf : ∀ (fn : Fn) (first cap : Array Value) (w : World), (Instr.makeFunc fn first cap).run Tryz.prog w = .ok (.func fn first cap) w := fun _ _ _ _ => rfl
  obtain ⟨p, cap, hrv⟩ := ownsRow_form hO
  obtain ⟨g0, g1, gf0, gf1⟩ := cells2 hg
  have hgl := cell_lt g0
  have hne : gb ≠ w.heap.size := fun e => by subst e; exact Nat.lt_irrefl _ hgl
  have hix := indexRule_any base rv P rs nm w.heap.size (w.alloc (.cells #[.string (ba nm)] 9)) (by unfold World.cell?; rw [heap_alloc_new]; rfl) (hO.alloc _) hl
  subst hrv
  go_enter Tryz.func97, Tryz.ntmps97
  go_wp2_with fail
  refine hix.mono ?_
  rintro e w1 ⟨rfl, hK⟩
  go_wp2
  go_ret
  exact ⟨rfl, ((Kept.refl _ w).alloc _).trans hK⟩
end Go.Proofs.YtagklnaaoclmhaaGreatDoor

namespace Go.Proofs.YtagklnaaoclmhaaGreatDoor
open Go.RowKit

/-- The code's grammar in memory. -/
structure Gm (w : World) (base gb : Nat) (rv : Value) (P : List Nat) (ρ : Nat → Int) (rs : List Rl) (ns : List Nd) : Prop where
  gram : ∃ z : Int, w.heap[gb]? = some (.cells #[rv, .int .i64 z] 150)
  own : w.ownsRow base 189 3 rv rs.length (rs.flatMap (rlC P))
  ar : Ar w base (fun _ => True) P ρ ns
  brk : ∃ L : List Nat, w.cell? ⟨gb, 1, none⟩ = some (.int .i64 (L.length : Int)) ∧ Bk w P L ns

theorem Gm.kept {S : Nat → Prop} {w w' : World} {base gb : Nat} {rv : Value} {P : List Nat} {ρ : Nat → Int} {rs : List Rl} {ns : List Nd} (h : Gm w base gb rv P ρ rs ns) (hk : Kept S w w') (hs : ∀ j c t, S j → objAt w j = some (.cells c t (0, 0)) → t ≠ 150 ∧ t ≠ 189 ∧ t ≠ 203 ∧ t ≠ 187 ∧ t ≠ 321) : Gm w' base gb rv P ρ rs ns := by
  obtain ⟨z, hz⟩ := h.gram
  have hgb := hk.block gb (objAt_lt (show objAt w gb = _ from hz)) (fun x => (hs _ _ _ x hz).1 rfl)
  refine ⟨⟨z, ?_⟩, ?_, ⟨h.ar.len, h.ar.sub, fun i hi => ?_, h.ar.nd, h.ar.low⟩, ?_⟩
  rotate_left 3
  · obtain ⟨L, hL, hB⟩ := h.brk
    refine ⟨L, by rw [← hL]; simp only [World.cell?, hgb], ⟨fun k hk' => ⟨(hB.num k hk').1, ?_⟩, hB.sub⟩⟩
    rw [← (hB.num k hk').2]
    have hm := (hB.num k hk').1
    generalize L[k] = x at hm ⊢
    obtain ⟨i, hi, rfl⟩ := List.getElem_of_mem hm
    have hp := h.ar.part i (by rw [← h.ar.len]; exact hi)
    have he : P.getD i 0 = P[i] := by simp [List.getD, List.getElem?_eq_getElem hi]
    rw [he] at hp
    obtain ⟨z, vR, vP, h1, h2, _⟩ := hp
    have := hk.block P[i] (objAt_lt (show objAt w P[i] = _ from h1)) (fun x => (hs _ _ _ x h1).2.2.1 rfl)
    simp only [World.cell?, this]
  · rw [hgb]; exact hz
  · exact own_kept h.own hk (fun j hj x => by
      obtain ⟨c, hc⟩ := ownsRow_obj h.own hj
      exact (hs _ _ _ x hc).2.1 rfl)
  · obtain ⟨z1, vR, vP, h1, h2, h3, h4, h5, h6⟩ := h.ar.part i hi
    refine ⟨z1, vR, vP, ?_, trivial, own_kept h3 hk (fun j hj x => ?_), fun _ _ => trivial, own_kept h5 hk (fun j hj x => ?_), fun _ _ => trivial⟩
    · rw [hk.block _ (objAt_lt (show objAt w _ = _ from h1)) (fun x => (hs _ _ _ x h1).2.2.1 rfl)]; exact h1
    · obtain ⟨c, hc⟩ := ownsRow_obj h3 hj
      exact (hs _ _ _ x hc).2.2.2.2 rfl
    · obtain ⟨c, hc⟩ := ownsRow_obj h5 hj
      exact (hs _ _ _ x hc).2.2.2.1 rfl
theorem Gm.same {w w' : World} {base gb : Nat} {rv : Value} {P : List Nat} {ρ : Nat → Int} {rs : List Rl} {ns : List Nd} (h : Gm w base gb rv P ρ rs ns) (hk : Kept (fun _ => False) w w') : Gm w' base gb rv P ρ rs ns := h.kept hk (fun _ _ _ x => x.elim)

/-- A part is told its rule. -/
theorem Gm.setRule {w : World} {base gb : Nat} {rv : Value} {P : List Nat} {ρ : Nat → Int} {rs : List Rl} {ns : List Nd} (h : Gm w base gb rv P ρ rs ns) {i : Nat} (hi : i < ns.length) (r : Int) : Gm (w.setCell ⟨P.getD i 0, 1, none⟩ (.int .i64 r)) base gb rv P (fun j => if j = i then r else ρ j) rs ns := by
  obtain ⟨z, hz⟩ := h.gram
  obtain ⟨z0, wR, wP, e1, _⟩ := h.ar.part i hi
  have hk : Kept (· = P.getD i 0) w (w.setCell ⟨P.getD i 0, 1, none⟩ (.int .i64 r)) := (Kept.refl (· = P.getD i 0) w).setCell (p := ⟨P.getD i 0, 1, none⟩) (fun _ => rfl) _
  have hty : ∀ (e size n : Nat) (v : Value) (xs : List Value), e ≠ 203 → w.ownsRow base e size v n xs → ∀ j, v.ownBlock = some j → ¬ j = P.getD i 0 := by
    intro e size n v xs he ho j hv hj
    subst hj
    obtain ⟨c, hc⟩ := ownsRow_obj ho hv
    rw [show objAt w (P.getD i 0) = _ from e1] at hc
    simp at hc
    exact he hc.2.symm
  have hgb := hk.block gb (objAt_lt (show objAt w gb = _ from hz)) (fun x => by
      have x' : gb = P.getD i 0 := x
      rw [← x', hz] at e1
      simp at e1)
  refine ⟨⟨z, ?_⟩, own_kept h.own hk (hty _ _ _ _ _ (by decide) h.own), ⟨h.ar.len, h.ar.sub, fun j hj => ?_, h.ar.nd, h.ar.low⟩, ?_⟩
  rotate_left 2
  · obtain ⟨L, hL, hB⟩ := h.brk
    refine ⟨L, by rw [← hL]; simp only [World.cell?, hgb], ⟨fun k hk' => ⟨(hB.num k hk').1, ?_⟩, hB.sub⟩⟩
    have h0 := (hB.num k hk').2
    by_cases hx : L[k] = P.getD i 0
    · rw [hx] at h0 ⊢
      rw [← h0]
      simp only [World.cell?, heap_set_at e1, e1]; simp [ptB]
    · rw [← h0]
      have hlt := h.ar.lt _ (hB.num k hk').1
      have := hk.block L[k] hlt hx
      simp only [World.cell?, this]
  · rw [hgb]; exact hz
  · obtain ⟨z1, vR, vP, h1, h2, h3, h4, h5, h6⟩ := h.ar.part j hj
    by_cases hij : j = i
    · subst hij
      simp only [if_true]
      refine ⟨z1, vR, vP, ?_, trivial, own_kept h3 hk (hty _ _ _ _ _ (by decide) h3), fun _ _ => trivial, own_kept h5 hk (hty _ _ _ _ _ (by decide) h5), fun _ _ => trivial⟩
      rw [heap_set_at h1]
      simp [ptB]
    · simp only [if_neg hij]
      refine ⟨z1, vR, vP, ?_, trivial, own_kept h3 hk (hty _ _ _ _ _ (by decide) h3), fun _ _ => trivial, own_kept h5 hk (hty _ _ _ _ _ (by decide) h5), fun _ _ => trivial⟩
      rw [hk.block _ (objAt_lt (show objAt w _ = _ from h1)) (fun x => hij ?_)]
      · exact h1
      · have hjl : j < P.length := by rw [h.ar.len]; exact hj
        have hil : i < P.length := by rw [h.ar.len]; exact hi
        have x' : P.getD j 0 = P.getD i 0 := x
        simp only [List.getD, List.getElem?_eq_getElem hjl, List.getElem?_eq_getElem hil, Option.getD_some] at x'
        exact (List.getElem_inj h.ar.nd).1 x'

/-- What is read of the mentions. -/
theorem mn_cells {w : World} {base : Nat} {mv : Value} {P : List Nat} {ms : List Mn} (h : w.ownsRow base 198 3 mv ms.length (ms.flatMap (mnC P))) {k : Nat} (hk : k < ms.length) :
    ∃ g cap, mv = .slice (some ⟨g, 0, none⟩) ms.length cap ∧ w.cell? ⟨g, k * 3, none⟩ = some (.string (ba ms[k].name)) ∧ w.cell? ⟨g, k * 3 + 1, none⟩ = some (.int .i64 (ms[k].at_ : Int)) ∧ w.cell? ⟨g, k * 3 + 2, none⟩ = some (.pointer (ms[k].part.map fun i => ⟨P.getD i 0, 0, none⟩)) := by
  obtain ⟨g, cap, hv, _, _⟩ := h.form (by omega)
  subst hv
  have hf : ∀ a : Mn, (mnC P a).length = 3 := fun _ => rfl
  refine ⟨g, cap, rfl, ?_, ?_, ?_⟩
  · rw [h.cellAt (k * 3) (by omega)]
    have := flat_get (mnC P) 3 hf ms k 0 (by omega) hk
    rw [Nat.add_zero] at this
    rw [this]; rfl
  · rw [h.cellAt (k * 3 + 1) (by omega), flat_get (mnC P) 3 hf ms k 1 (by omega) hk]; rfl
  · rw [h.cellAt (k * 3 + 2) (by omega), flat_get (mnC P) 3 hf ms k 2 (by omega) hk]; rfl

/-- What resolve leaves. -/
structure RsOut (base gb : Nat) (rv : Value) (P : List Nat) (rs : List Rl) (ns : List Nd) (w : World) (e : Ending) (w' : World) : Prop where
  ok : mis rs ns < 0 → e = .returned (.tuple #[.int .i64 0, .bool true]) ∧ ∃ ρ, Gm w' base gb rv P ρ rs ns ∧ ∀ i, i < ns.length → (nth ns i).kind = 3 → ρ i = (ruI rs (nth ns i) : Int)
  no : 0 ≤ mis rs ns → e = .returned (.tuple #[.int .i64 (mis rs ns), .bool false])
  kept : Kept (fun k => ∃ i, i < ns.length ∧ P.getD i 0 = k) w w'

/-- Names that are being resolved. -/
structure RsI (base gb : Nat) (rv mv : Value) (P : List Nat) (ms : List Mn) (rs : List Rl) (ns : List Nd) (w : World) (k : Nat) (ρ : Nat → Int) (wx : World) : Prop where
  gm : Gm wx base gb rv P ρ rs ns
  own : wx.ownsRow base 198 3 mv ms.length (ms.flatMap (mnC P))
  good : ∀ j (h : j < ms.length), j < k → badM rs ms[j] = false
  told : ∀ j (h : j < ms.length), j < k → ∀ i, ms[j].part = some i → ρ i = (ruI rs (nth ns i) : Int)
  kept : Kept (fun k => ∃ i, i < ns.length ∧ P.getD i 0 = k) w wx

theorem RsI.same {w w' : World} {base gb k : Nat} {rv mv : Value} {P : List Nat} {ms : List Mn} {ρ : Nat → Int} {rs : List Rl} {ns : List Nd} {wx : World} (h : RsI base gb rv mv P ms rs ns w k ρ wx) (hk : Kept (fun _ => False) wx w') : RsI base gb rv mv P ms rs ns w k ρ w' :=
  ⟨h.gm.same hk, own_kept h.own hk (fun _ _ x => x), h.good, h.told, h.kept.trans (hk.mono (fun _ _ x => x.elim))⟩

set_option maxRecDepth 100000 in
set_option maxHeartbeats 3200000 in
theorem resolve_code (base gb p : Nat) (rv mv : Value) (P : List Nat) (ms : List Mn) (rs : List Rl) (ns : List Nd) (w : World) (hG : Gm w base gb rv P (fun _ => 0) rs ns) (hO : w.ownsRow base 198 3 mv ms.length (ms.flatMap (mnC P))) (hM : MsOk ms rs ns p) (hl : rs.length ≤ 8) (hml : ms.length ≤ 5000) :
    Calls Tryz.prog 68 #[.pointer (some ⟨gb, 0, none⟩), mv] w fun e w' => RsOut base gb rv P rs ns w e w' := by
  obtain ⟨mp, mc, hmv⟩ := ownsRow_form hO
  subst hmv
  go_enter Tryz.func68, Tryz.ntmps68
  go_wp2
  go_loopg [11] ms.length (fun n i wx => ∃ k ρ, Hid (k + n = ms.length) ∧ i = .int .i64 (k : Nat) ∧ RsI base gb rv (.slice mp ms.length mc) P ms rs ns w k ρ wx)
  case atStart => exact ⟨0, fun _ => 0, Nat.zero_add _, rfl, hG, hO, fun j _ h => absurd h (by omega), fun j _ h => absurd h (by omega), Kept.refl _ _⟩
  case round =>
    obtain ⟨k, ρ, hkn, rfl, hI⟩ := hrel
    obtain ⟨m, hm⟩ : ∃ m, m = gk := ⟨gk, rfl⟩
    subst hm
    by_cases hlt : k < ms.length
    · obtain ⟨mb, cap', hmv, r0, r1, r2⟩ := mn_cells hI.own hlt
      simp only [Value.slice.injEq] at hmv
      obtain ⟨hp, _, hcap⟩ := hmv
      subst hp hcap
      have hmem := (hM.mem ms[k]).1 (List.getElem_mem hlt)
      have hI8 := fun o => hI.same ((Kept.refl (fun _ => False) wr).alloc o)
      have hfirst := hM.first hlt hI.good
      have hgood := hI.good
      have htold := hI.told
      obtain ⟨mk, hmk⟩ : ∃ x, x = ms[k] := ⟨_, rfl⟩
      rw [← hmk] at r0 r1 r2 hmem hfirst
      obtain ⟨nm, at_, pt⟩ := mk
      dsimp only at *
      have hmbl := cell_lt r0
      cases pt with
      | none =>
        simp only [Option.map_none] at r2
        have hI9 := hI8 (.cells #[.string (ba nm), .int .i64 (at_ : Int), .pointer none] 198)
        obtain ⟨z, hz⟩ := hI9.gm.gram
        have hfind := find_code base gb rv z P rs nm _ hz hI9.gm.own hl
        go_wp2_with fail
        refine hfind.mono ?_
        rintro e w7 ⟨rfl, hK7⟩
        have hI7 := hI9.same hK7
        have hk7 : w7.heap[wr.heap.size]? = some (.cells #[.string (ba nm), .int .i64 (at_ : Int), .pointer none] 198) := by
          rw [hK7.block _ (by simp) (fun h => h)]; exact heap_alloc_new _ _
        obtain ⟨x0, x1, x2, xf0, xf1, xf2⟩ := cells3 hk7
        obtain ⟨i0, hfi, hi0⟩ : ∃ i0, fndI rs nm = some i0 ∧ i0 < rs.length := by
          rcases hmem with ⟨_, r, hr, hrn, _⟩ | ⟨i, hi, _⟩
          · obtain ⟨j, hj, rfl⟩ := List.getElem_of_mem hr
            obtain ⟨i0, h1, _⟩ := fndI_own hj
            rw [hrn] at h1
            exact ⟨i0, h1, fndI_lt h1⟩
          · cases hi
        have hfe : fnd rs nm = (i0 : Int) := by unfold fnd; rw [hfi]
        obtain ⟨rb, rcap, hrv, q0, q1, q2⟩ := rl_cells hI7.gm.own hi0
        obtain ⟨z7, hz7⟩ := hI7.gm.gram
        obtain ⟨g0, g1, gf0, gf1⟩ := cells2 hz7
        have hbm : badM rs ⟨nm, at_, none⟩ = decide (rs[i0].at_ ≠ at_) := by
          unfold badM
          simp only [hfi, Option.getD_some]
          rw [map_getD _ _ _ _ hi0]
        rw [hfe]
        rw [hrv] at g0
        have hkI := hI7.kept
        obtain ⟨ra, hra⟩ : ∃ ra, ra = rs[i0].at_ := ⟨_, rfl⟩
        rw [← hra] at q1 hbm
        clear hra r0 r1 r2 hz hfind hI9 hI8
        by_cases hat : ra = at_
        · have qq : ((ra : Int) != (at_ : Int)) = false := by simp [hat]
          have HB : Hid (badM rs ⟨nm, at_, none⟩ = false) := by unfold Hid; rw [hbm]; simp [hat]
          have HI := hide hI7
          clear hat hbm hfirst
          go_wp2
          go_quiet (fail)
          go_wp2
          go_roundg (m - 1)
          case measure => have := hkn.out; omega
          case rel =>
            have hI10 := HI.out.same ((Kept.refl (fun _ => False) w7).drewN nq)
            refine ⟨k + 1, ρ, by have := hkn.out; unfold Hid; omega, by go_num, hI10.gm, hI10.own, fun j hj hjk => ?_, fun j hj hjk i hi => ?_, hI10.kept⟩
            · rcases Nat.lt_or_eq_of_le (Nat.lt_succ_iff.1 hjk) with h1 | h1
              · exact hgood j hj h1
              · subst h1; rw [← hmk]; exact HB.out
            · rcases Nat.lt_or_eq_of_le (Nat.lt_succ_iff.1 hjk) with h1 | h1
              · exact htold j hj h1 i hi
              · subst h1; rw [← hmk] at hi; cases hi
        · have qq : ((ra : Int) != (at_ : Int)) = true := by simp; omega
          have HB : Hid (mis rs ns = (at_ : Int)) := hfirst (by rw [hbm]; simpa using hat)
          clear hat hbm hfirst
          go_wp2
          go_quiet (fail)
          go_wp2
          go_ret2
          exact ⟨fun h => absurd h (by rw [HB.out]; omega), fun _ => by rw [HB.out]; rfl, hkI.drewN _⟩
      | some i =>
        simp only [Option.map_some] at r2
        have hI9 := hI8 (.cells #[.string (ba nm), .int .i64 (at_ : Int), .pointer (some ⟨P.getD i 0, 0, none⟩)] 198)
        obtain ⟨z, hz⟩ := hI9.gm.gram
        have hfind := find_code base gb rv z P rs nm _ hz hI9.gm.own hl
        obtain ⟨hin, hik, hinm⟩ : i < ns.length ∧ (nth ns i).kind = 3 ∧ (nth ns i).name = nm := by
          rcases hmem with ⟨h, _⟩ | ⟨j, hj, h1, h2, h3, h4⟩
          · cases h
          · have := Option.some.inj hj
            subst this
            exact ⟨h1, h2, h3⟩
        obtain ⟨pi, hpi⟩ : ∃ pi, pi = P.getD i 0 := ⟨_, rfl⟩
        rw [← hpi] at r2 hI9 hfind
        have HPI := hide hpi
        clear hpi
        go_wp2_with fail
        refine hfind.mono ?_
        rintro e w7 ⟨rfl, hK7⟩
        have hI7 := hI9.same hK7
        have hk7 : w7.heap[wr.heap.size]? = some (.cells #[.string (ba nm), .int .i64 (at_ : Int), .pointer (some ⟨pi, 0, none⟩)] 198) := by
          rw [hK7.block _ (by simp) (fun h => h)]; exact heap_alloc_new _ _
        obtain ⟨x0, x1, x2, xf0, xf1, xf2⟩ := cells3 hk7
        have hkI := hI7.kept
        cases hfi : fndI rs nm with
        | none =>
          have hfe : fnd rs nm = -1 := by unfold fnd; rw [hfi]
          have HB : Hid (mis rs ns = (at_ : Int)) := hfirst (by unfold badM; simp [hfi])
          rw [hfe]
          clear hfirst hfind hI9 hI8 r0 r1 r2 hz
          go_wp2
          go_quiet (fail)
          go_wp2
          go_ret2
          exact ⟨fun h => absurd h (by rw [HB.out]; omega), fun _ => by rw [HB.out]; rfl, hkI.drewN _⟩
        | some i0 =>
          have hfe : fnd rs nm = (i0 : Int) := by unfold fnd; rw [hfi]
          have HB : Hid (badM rs ⟨nm, at_, some i⟩ = false) := by unfold Hid badM; simp [hfi]
          have HR : Hid ((i0 : Int) = (ruI rs (nth ns i) : Int)) := by unfold Hid ruI; rw [hinm, hfi]; rfl
          have HI := hide hI7
          have hpc : w7.cell? ⟨pi, 1, none⟩ = some (.int .i64 (ρ i)) ∧ w7.frozen? ⟨pi, 1, none⟩ = false := by
            obtain ⟨z1, vR, vP, h1, _⟩ := hI7.gm.ar.part i hin
            rw [← HPI.out] at h1
            constructor <;> simp [World.cell?, World.frozen?, h1, ptB]
          obtain ⟨pc0, pc1⟩ := hpc
          have hi0 : ¬ (i0 : Int) < 0 := by omega
          rw [hfe]
          clear hfirst hfind hI9 hI8 r0 r1 r2 hz hfe
          go_wp2
          go_quiet (fail)
          go_wp2
          go_roundg (m - 1)
          case measure => have := hkn.out; omega
          case rel =>
            have hI10 := HI.out.same ((Kept.refl (fun _ => False) w7).drewN nq)
            have hgm := hI10.gm.setRule hin (i0 : Int)
            rw [← HPI.out] at hgm
            refine ⟨k + 1, _, by have := hkn.out; unfold Hid; omega, by go_num, hgm, own_kept hI10.own ((Kept.refl (· = pi) _).setCell (p := ⟨pi, 1, none⟩) (fun _ => rfl) _) (fun j hj e => ?_), fun j hj hjk => ?_, fun j hj hjk i' hi' => ?_, hI10.kept.setCell (p := ⟨pi, 1, none⟩) (fun _ => ⟨i, hin, HPI.out.symm⟩) _⟩
            · obtain ⟨c, hc⟩ := ownsRow_obj hI10.own hj
              obtain ⟨z1, vR, vP, h1, _⟩ := hI10.gm.ar.part i hin
              have e' : j = pi := e
              rw [← HPI.out, ← e', show (w7.drewN nq).heap[j]? = _ from hc] at h1
              simp at h1
            · rcases Nat.lt_or_eq_of_le (Nat.lt_succ_iff.1 hjk) with h1 | h1
              · exact hgood j hj h1
              · subst h1; rw [← hmk]; exact HB.out
            · by_cases hii : i' = i
              · rw [if_pos hii, hii]; exact HR.out
              · rw [if_neg hii]
                rcases Nat.lt_or_eq_of_le (Nat.lt_succ_iff.1 hjk) with h1 | h1
                · exact htold j hj h1 i' hi'
                · subst h1; rw [← hmk] at hi'; exact absurd (Option.some.inj hi').symm hii
    · have HB : Hid (mis rs ns < 0) := hM.none (fun j hj => hI.good j hj (by omega))
      have HI := hide hI
      clear hI
      go_wp2
      go_ret2
      refine ⟨fun _ => ⟨rfl, ρ, HI.out.gm, fun i hi hk3 => ?_⟩, fun h => absurd HB.out (by omega), HI.out.kept⟩
      have hmem := (hM.mem ⟨(nth ns i).name, (nth ns i).at_, some i⟩).2 (.inr ⟨i, rfl, hi, hk3, rfl, rfl⟩)
      obtain ⟨j, hj, he⟩ := List.getElem_of_mem hmem
      exact HI.out.told j hj (by omega) i (by rw [he])
end Go.Proofs.YtagklnaaoclmhaaGreatDoor

namespace Go.Proofs.YtagklnaaoclmhaaGreatDoor
open Go.RowKit

/-- What is read of a part's parts. -/
theorem ptr_cell {w : World} {base : Nat} {v : Value} {P l : List Nat} (h : w.ownsRow base 187 1 v l.length (l.map (ptrAt P))) {k : Nat} (hk : k < l.length) :
    ∃ sb cap, v = .slice (some ⟨sb, 0, none⟩) l.length cap ∧ w.cell? ⟨sb, k, none⟩ = some (.pointer (some ⟨P.getD (l.getD k 0) 0, 0, none⟩)) := by
  obtain ⟨sb, cap, hv, _, _⟩ := h.form (by omega)
  subst hv
  refine ⟨sb, cap, rfl, ?_⟩
  rw [h.cellAt k (by omega)]
  simp [ptrAt, hk, List.getD]

/-- What the search leaves: whether there is one. -/
structure IxOut (w : World) (b : Bool) (e : Ending) (w' : World) : Prop where
  res : ∃ x : Int, e = .returned (.int .i64 x) ∧ decide (x ≥ 0) = b
  kept : Kept (fun _ => False) w w'

theorem any_none {l : List Nat} {g : Nat → Bool} (h : ∀ q, q < l.length → g (l.getD q 0) = false) : l.any g = false := by
  rw [List.any_eq_false]
  intro x hx
  obtain ⟨q, hq, rfl⟩ := List.getElem_of_mem hx
  have := h q hq
  simp [List.getD, List.getElem?_eq_getElem hq] at this
  simp [this]
theorem any_one {l : List Nat} {g : Nat → Bool} {q : Nat} (hq : q < l.length) (h : g (l.getD q 0) = true) : l.any g = true := by
  rw [List.any_eq_true]
  exact ⟨l[q], List.getElem_mem hq, by simpa [List.getD, List.getElem?_eq_getElem hq] using h⟩
theorem getD_mem {l : List Nat} {q : Nat} (hq : q < l.length) : l.getD q 0 ∈ l := by
  simp [List.getD, List.getElem?_eq_getElem hq]

set_option maxRecDepth 100000 in
set_option maxHeartbeats 1600000 in
theorem index54 (base : Nat) (v : Value) (P l : List Nat) (g : Nat → Bool) (kb : Nat) (w : World) (hO : w.ownsRow base 187 1 v l.length (l.map (ptrAt P))) (hl : l.length ≤ 9223372036854775807)
    (H : ∀ q, q < l.length → ∀ wx, Kept (fun _ => False) w wx → Calls Tryz.prog 168 #[.pointer (some ⟨P.getD (l.getD q 0) 0, 0, none⟩), .pointer (some ⟨kb, 0, none⟩)] wx fun e w' => e = .returned (.bool (g (l.getD q 0))) ∧ Kept (fun _ => False) wx w') :
    Calls Tryz.prog 170 #[v, .func (.func 168) #[] #[.pointer (some ⟨kb, 0, none⟩)]] w fun e w' => IxOut w (l.any g) e w' := by
  obtain ⟨p, cap, hrv⟩ := ownsRow_form hO
  subst hrv
  go_enter Tryz.func170, Tryz.ntmps170
  go_wp2
  go_loopg [8] l.length (fun n i wx => ∃ k : Nat, Hid (k + n = l.length) ∧ i = .int .i64 k ∧ Hid (∀ j, j < k → g (l.getD j 0) = false) ∧ Kept (fun _ => False) w wx)
  case atStart => exact ⟨0, Nat.zero_add _, rfl, fun j h => absurd h (by omega), Kept.refl _ _⟩
  case round =>
    obtain ⟨k, hkn, rfl, HA, hK⟩ := hrel
    obtain ⟨m, hm⟩ : ∃ m, m = gk := ⟨gk, rfl⟩
    subst hm
    have hO6 := own_kept hO hK (fun _ _ h => h)
    by_cases hlt : k < l.length
    · obtain ⟨sb, cap', hrv, r0⟩ := ptr_cell hO6 hlt
      simp only [Value.slice.injEq] at hrv
      obtain ⟨hp, _, hcap⟩ := hrv
      subst hp hcap
      have hf := H k hlt wr hK
      have HNS := hide (fun h : g (l.getD k 0) = false => (fun j (hj : j < k + 1) => by
          rcases Nat.lt_or_eq_of_le (Nat.lt_succ_iff.1 hj) with h1 | h1
          · exact HA.out j h1
          · subst h1; exact h : ∀ j, j < k + 1 → g (l.getD j 0) = false))
      have HAN := hide (fun h : g (l.getD k 0) = true => any_one hlt h)
      generalize g (l.getD k 0) = gv at *
      obtain ⟨pq, hpq⟩ : ∃ pq, pq = P.getD (l.getD k 0) 0 := ⟨_, rfl⟩
      rw [← hpq] at r0 hf
      clear HA hpq H
      go_wp2_with fail
      refine hf.mono ?_
      rintro e w7 ⟨rfl, hK7⟩
      have hK8 := hK.trans hK7
      cases gv
      · have HN := hide (HNS.out rfl)
        clear HNS HAN
        go_wp2
        go_roundg (m - 1)
        case measure => have := hkn.out; omega
        case rel => exact ⟨k + 1, by have := hkn.out; unfold Hid; omega, by go_num, HN.out, hK8⟩
      · have HN := hide (HAN.out rfl)
        clear HNS HAN
        go_wp2
        go_ret
        exact ⟨⟨(k : Int), rfl, by rw [HN.out]; simp⟩, hK8⟩
    · have HF : Hid (l.any g = false) := any_none (fun q hq => HA.out q (by omega))
      clear HA
      go_wp2
      go_ret
      exact ⟨⟨-1, rfl, by rw [HF.out]; rfl⟩, hK⟩
set_option maxRecDepth 100000 in
set_option maxHeartbeats 800000 in
theorem contains54 (base : Nat) (v : Value) (P l : List Nat) (g : Nat → Bool) (kb : Nat) (w : World) (hO : w.ownsRow base 187 1 v l.length (l.map (ptrAt P))) (hl : l.length ≤ 9223372036854775807)
    (H : ∀ q, q < l.length → ∀ wx, Kept (fun _ => False) w wx → Calls Tryz.prog 168 #[.pointer (some ⟨P.getD (l.getD q 0) 0, 0, none⟩), .pointer (some ⟨kb, 0, none⟩)] wx fun e w' => e = .returned (.bool (g (l.getD q 0))) ∧ Kept (fun _ => False) wx w') :
    Calls Tryz.prog 148 #[v, .func (.func 168) #[] #[.pointer (some ⟨kb, 0, none⟩)]] w fun e w' => e = .returned (.bool (l.any g)) ∧ Kept (fun _ => False) w w' := by
  have hix := index54 base v P l g kb w hO hl H
  obtain ⟨p, cap, hrv⟩ := ownsRow_form hO
  subst hrv
  clear H
  generalize l.any g = gv at *
  go_enter Tryz.func148, Tryz.ntmps148
  go_wp2_with fail
  refine hix.mono ?_
  intro e w1 hOut
  obtain ⟨x, rfl, hx⟩ := hOut.res
  have hK := hOut.kept
  go_wp2
  go_ret
  exact ⟨by rw [← hx]; rfl, hK⟩

set_option maxRecDepth 100000 in
set_option maxHeartbeats 1600000 in
theorem index55 (base : Nat) (v : Value) (P l : List Nat) (g : Nat → Bool) (kb : Nat) (w : World) (hO : w.ownsRow base 187 1 v l.length (l.map (ptrAt P))) (hl : l.length ≤ 9223372036854775807)
    (H : ∀ q, q < l.length → ∀ wx, Kept (fun _ => False) w wx → Calls Tryz.prog 169 #[.pointer (some ⟨P.getD (l.getD q 0) 0, 0, none⟩), .pointer (some ⟨kb, 0, none⟩)] wx fun e w' => e = .returned (.bool (g (l.getD q 0))) ∧ Kept (fun _ => False) wx w') :
    Calls Tryz.prog 170 #[v, .func (.func 169) #[] #[.pointer (some ⟨kb, 0, none⟩)]] w fun e w' => IxOut w (l.any g) e w' := by
  obtain ⟨p, cap, hrv⟩ := ownsRow_form hO
  subst hrv
  go_enter Tryz.func170, Tryz.ntmps170
  go_wp2
  go_loopg [8] l.length (fun n i wx => ∃ k : Nat, Hid (k + n = l.length) ∧ i = .int .i64 k ∧ Hid (∀ j, j < k → g (l.getD j 0) = false) ∧ Kept (fun _ => False) w wx)
  case atStart => exact ⟨0, Nat.zero_add _, rfl, fun j h => absurd h (by omega), Kept.refl _ _⟩
  case round =>
    obtain ⟨k, hkn, rfl, HA, hK⟩ := hrel
    obtain ⟨m, hm⟩ : ∃ m, m = gk := ⟨gk, rfl⟩
    subst hm
    have hO6 := own_kept hO hK (fun _ _ h => h)
    by_cases hlt : k < l.length
    · obtain ⟨sb, cap', hrv, r0⟩ := ptr_cell hO6 hlt
      simp only [Value.slice.injEq] at hrv
      obtain ⟨hp, _, hcap⟩ := hrv
      subst hp hcap
      have hf := H k hlt wr hK
      have HNS := hide (fun h : g (l.getD k 0) = false => (fun j (hj : j < k + 1) => by
          rcases Nat.lt_or_eq_of_le (Nat.lt_succ_iff.1 hj) with h1 | h1
          · exact HA.out j h1
          · subst h1; exact h : ∀ j, j < k + 1 → g (l.getD j 0) = false))
      have HAN := hide (fun h : g (l.getD k 0) = true => any_one hlt h)
      generalize g (l.getD k 0) = gv at *
      obtain ⟨pq, hpq⟩ : ∃ pq, pq = P.getD (l.getD k 0) 0 := ⟨_, rfl⟩
      rw [← hpq] at r0 hf
      clear HA hpq H
      go_wp2_with fail
      refine hf.mono ?_
      rintro e w7 ⟨rfl, hK7⟩
      have hK8 := hK.trans hK7
      cases gv
      · have HN := hide (HNS.out rfl)
        clear HNS HAN
        go_wp2
        go_roundg (m - 1)
        case measure => have := hkn.out; omega
        case rel => exact ⟨k + 1, by have := hkn.out; unfold Hid; omega, by go_num, HN.out, hK8⟩
      · have HN := hide (HAN.out rfl)
        clear HNS HAN
        go_wp2
        go_ret
        exact ⟨⟨(k : Int), rfl, by rw [HN.out]; simp⟩, hK8⟩
    · have HF : Hid (l.any g = false) := any_none (fun q hq => HA.out q (by omega))
      clear HA
      go_wp2
      go_ret
      exact ⟨⟨-1, rfl, by rw [HF.out]; rfl⟩, hK⟩
set_option maxRecDepth 100000 in
set_option maxHeartbeats 800000 in
theorem contains55 (base : Nat) (v : Value) (P l : List Nat) (g : Nat → Bool) (kb : Nat) (w : World) (hO : w.ownsRow base 187 1 v l.length (l.map (ptrAt P))) (hl : l.length ≤ 9223372036854775807)
    (H : ∀ q, q < l.length → ∀ wx, Kept (fun _ => False) w wx → Calls Tryz.prog 169 #[.pointer (some ⟨P.getD (l.getD q 0) 0, 0, none⟩), .pointer (some ⟨kb, 0, none⟩)] wx fun e w' => e = .returned (.bool (g (l.getD q 0))) ∧ Kept (fun _ => False) wx w') :
    Calls Tryz.prog 148 #[v, .func (.func 169) #[] #[.pointer (some ⟨kb, 0, none⟩)]] w fun e w' => e = .returned (.bool (l.any g)) ∧ Kept (fun _ => False) w w' := by
  have hix := index55 base v P l g kb w hO hl H
  obtain ⟨p, cap, hrv⟩ := ownsRow_form hO
  subst hrv
  clear H
  generalize l.any g = gv at *
  go_enter Tryz.func148, Tryz.ntmps148
  go_wp2_with fail
  refine hix.mono ?_
  intro e w1 hOut
  obtain ⟨x, rfl, hx⟩ := hOut.res
  have hK := hOut.kept
  go_wp2
  go_ret
  exact ⟨by rw [← hx]; rfl, hK⟩

set_option maxRecDepth 100000 in
set_option maxHeartbeats 1600000 in
theorem index46 (base : Nat) (v : Value) (P l : List Nat) (g : Nat → Bool) (ka kb : Nat) (w : World) (hO : w.ownsRow base 187 1 v l.length (l.map (ptrAt P))) (hl : l.length ≤ 9223372036854775807)
    (H : ∀ q, q < l.length → ∀ wx, Kept (fun _ => False) w wx → Calls Tryz.prog 149 #[.pointer (some ⟨P.getD (l.getD q 0) 0, 0, none⟩), .pointer (some ⟨ka, 0, none⟩), .pointer (some ⟨kb, 0, none⟩)] wx fun e w' => e = .returned (.bool (g (l.getD q 0))) ∧ Kept (fun _ => False) wx w') :
    Calls Tryz.prog 170 #[v, .func (.func 149) #[] #[.pointer (some ⟨ka, 0, none⟩), .pointer (some ⟨kb, 0, none⟩)]] w fun e w' => IxOut w (l.any g) e w' := by
  obtain ⟨p, cap, hrv⟩ := ownsRow_form hO
  subst hrv
  go_enter Tryz.func170, Tryz.ntmps170
  go_wp2
  go_loopg [8] l.length (fun n i wx => ∃ k : Nat, Hid (k + n = l.length) ∧ i = .int .i64 k ∧ Hid (∀ j, j < k → g (l.getD j 0) = false) ∧ Kept (fun _ => False) w wx)
  case atStart => exact ⟨0, Nat.zero_add _, rfl, fun j h => absurd h (by omega), Kept.refl _ _⟩
  case round =>
    obtain ⟨k, hkn, rfl, HA, hK⟩ := hrel
    obtain ⟨m, hm⟩ : ∃ m, m = gk := ⟨gk, rfl⟩
    subst hm
    have hO6 := own_kept hO hK (fun _ _ h => h)
    by_cases hlt : k < l.length
    · obtain ⟨sb, cap', hrv, r0⟩ := ptr_cell hO6 hlt
      simp only [Value.slice.injEq] at hrv
      obtain ⟨hp, _, hcap⟩ := hrv
      subst hp hcap
      have hf := H k hlt wr hK
      have HNS := hide (fun h : g (l.getD k 0) = false => (fun j (hj : j < k + 1) => by
          rcases Nat.lt_or_eq_of_le (Nat.lt_succ_iff.1 hj) with h1 | h1
          · exact HA.out j h1
          · subst h1; exact h : ∀ j, j < k + 1 → g (l.getD j 0) = false))
      have HAN := hide (fun h : g (l.getD k 0) = true => any_one hlt h)
      generalize g (l.getD k 0) = gv at *
      obtain ⟨pq, hpq⟩ : ∃ pq, pq = P.getD (l.getD k 0) 0 := ⟨_, rfl⟩
      rw [← hpq] at r0 hf
      clear HA hpq H
      go_wp2_with fail
      refine hf.mono ?_
      rintro e w7 ⟨rfl, hK7⟩
      have hK8 := hK.trans hK7
      cases gv
      · have HN := hide (HNS.out rfl)
        clear HNS HAN
        go_wp2
        go_roundg (m - 1)
        case measure => have := hkn.out; omega
        case rel => exact ⟨k + 1, by have := hkn.out; unfold Hid; omega, by go_num, HN.out, hK8⟩
      · have HN := hide (HAN.out rfl)
        clear HNS HAN
        go_wp2
        go_ret
        exact ⟨⟨(k : Int), rfl, by rw [HN.out]; simp⟩, hK8⟩
    · have HF : Hid (l.any g = false) := any_none (fun q hq => HA.out q (by omega))
      clear HA
      go_wp2
      go_ret
      exact ⟨⟨-1, rfl, by rw [HF.out]; rfl⟩, hK⟩
set_option maxRecDepth 100000 in
set_option maxHeartbeats 800000 in
theorem contains46 (base : Nat) (v : Value) (P l : List Nat) (g : Nat → Bool) (ka kb : Nat) (w : World) (hO : w.ownsRow base 187 1 v l.length (l.map (ptrAt P))) (hl : l.length ≤ 9223372036854775807)
    (H : ∀ q, q < l.length → ∀ wx, Kept (fun _ => False) w wx → Calls Tryz.prog 149 #[.pointer (some ⟨P.getD (l.getD q 0) 0, 0, none⟩), .pointer (some ⟨ka, 0, none⟩), .pointer (some ⟨kb, 0, none⟩)] wx fun e w' => e = .returned (.bool (g (l.getD q 0))) ∧ Kept (fun _ => False) wx w') :
    Calls Tryz.prog 148 #[v, .func (.func 149) #[] #[.pointer (some ⟨ka, 0, none⟩), .pointer (some ⟨kb, 0, none⟩)]] w fun e w' => e = .returned (.bool (l.any g)) ∧ Kept (fun _ => False) w w' := by
  have hix := index46 base v P l g ka kb w hO hl H
  obtain ⟨p, cap, hrv⟩ := ownsRow_form hO
  subst hrv
  clear H
  generalize l.any g = gv at *
  go_enter Tryz.func148, Tryz.ntmps148
  go_wp2_with fail
  refine hix.mono ?_
  intro e w1 hOut
  obtain ⟨x, rfl, hx⟩ := hOut.res
  have hK := hOut.kept
  go_wp2
  go_ret
  exact ⟨by rw [← hx]; rfl, hK⟩
end Go.Proofs.YtagklnaaoclmhaaGreatDoor
