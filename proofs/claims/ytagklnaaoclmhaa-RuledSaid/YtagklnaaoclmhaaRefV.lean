import Derived.Test.YtagklnaaoclmhaaRefU
set_option linter.unusedSimpArgs false
set_option linter.unusedVariables false
namespace Go.Proofs.Ytagklnaaoclmhaa
open Go.RowKit
attribute [local go_sem ↓] exec_load59 exec_alloc59 exec_store59 exec_build59 exec_buildSlice36
attribute [local go_sem] load59At_ptr load59Of_some store59At_ptr store59Of_sz build59_nil build59_kind build59_term build59_name build59_subs buildSlice36_some objAt_drew objAt_drewN objAt_new objAt_old

/-- begins does as bgF. -/
def BgSaid (s : ByteArray) (rs : List Rl) (A : St) (E : List Bool) (f : Nat) : Prop := ∀ (base b eb wb i : Nat) (nv rv : Value) (U : Nat → Prop) (ahead : Bool) (L : List Bool) (w : World), Rdy w base b s nv rv U A rs → BoolsAt w eb E → BoolsAt w wb L → eb ≠ wb → L.length = rs.length → i < A.ns.length → i < f →
  Calls Try.prog 22 #[.pointer (some ⟨b, 0, none⟩), .int .i64 (i : Int), .slice (some ⟨eb, 0, none⟩) A.ns.length A.ns.length, .bool ahead, .slice (some ⟨wb, 0, none⟩) rs.length rs.length] w fun e w' =>
    e = .returned (.bool (bgF rs A.ns E f i ahead L).1) ∧ BoolsAt w' wb (bgF rs A.ns E f i ahead L).2 ∧ Kept (· = wb) w w'

theorem drop_getD {l : List Nat} {q : Nat} (h : q < l.length) : l.drop q = l.getD q 0 :: l.drop (q + 1) := by
  rw [List.drop_eq_getElem_cons h]
  simp [List.getD, List.getElem?_eq_getElem h]

set_option maxRecDepth 100000 in
set_option maxHeartbeats 12800000 in
theorem begins_plain {s : ByteArray} {rs : List Rl} {A : St} {E : List Bool} {f : Nat} (IH : BgSaid s rs A E f) (hW : WfR A.ns rs) (hN : ∀ N ∈ A.ns, N.kind = 3 → (fndI rs N.name).isSome = true) (hn : A.ns.length ≤ 5000) (hE : E.length = A.ns.length)
    (base b eb wb i : Nat) (nv rv : Value) (U : Nat → Prop) (ahead : Bool) (L : List Bool) (w : World) (hR : Rdy w base b s nv rv U A rs) (hBe : BoolsAt w eb E) (hBw : BoolsAt w wb L) (hew : eb ≠ wb) (hL : L.length = rs.length) (hlt : i < A.ns.length) (hif : i < f + 1) (h3 : A.ns[i].kind ≠ 3) (h7 : A.ns[i].kind ≠ 7) (h8 : A.ns[i].kind ≠ 8) :
    Calls Try.prog 22 #[.pointer (some ⟨b, 0, none⟩), .int .i64 (i : Int), .slice (some ⟨eb, 0, none⟩) A.ns.length A.ns.length, .bool ahead, .slice (some ⟨wb, 0, none⟩) rs.length rs.length] w fun e w' =>
      e = .returned (.bool (bgF rs A.ns E (f + 1) i ahead L).1) ∧ BoolsAt w' wb (bgF rs A.ns E (f + 1) i ahead L).2 ∧ Kept (· = wb) w w' := by
  have hl8 := hW.len
  obtain ⟨g, cap2, c, v, cur, hnv, hog, hsz, hex, NI, hsu, _⟩ := hR.rg.nodes.get hlt
  obtain ⟨c0, c1, c2, c3, c4, c5, c6⟩ := hR.rg.gis.cells
  rw [hnv] at c0
  have hrow : ((w.alloc (.cells z59 59)).setRow w.heap.size c) = w.alloc (.cells c 59) := World.setRow_alloc_new w z59 c 59
  have ho := ones_of NI.one
  have hcs : Sz c := NI.size
  have hz : Sz z59 := z59_size
  have hkc : ∀ j, (w.alloc (.cells c 59)).cell? ⟨w.heap.size, j, none⟩ = c[j]? := fun j => objAt_cell (objAt_new w _)
  have heb := objAt_lt hBe
  have hwb := objAt_lt hBw
  have hNk := hW.wf i A.ns[i] (List.getElem?_eq_getElem hlt)
  have hLS := subs_low hNk.low
  have hsle := ownsRow_le hsu
  have HB : Hid (bgF rs A.ns E (f + 1) i ahead L = bgL (bgF rs A.ns E f) E A.ns[i].kind A.ns[i].subs (decide (A.ns[i].kind = 7 ∨ A.ns[i].kind = 8) && E.getD (A.ns[i].subs.getD 0 0) false) ahead
      (if A.ns[i].kind = 3 ∧ ahead = true then L.set ((fndI rs A.ns[i].name).getD 0) true else L)) := by
    unfold Hid; rw [bgF, nth_get hlt]
  have hlenF : ∀ j a W, W.length = rs.length → (bgF rs A.ns E f j a W).2.length = rs.length := fun j a W h => bgF_len f j a W h
  generalize bgF rs A.ns E (f + 1) i ahead L = R at *
  have k0 : c[0]? = some (.int .i64 (A.ns[i].kind : Int)) := NI.kind
  have k4 := NI.name
  have k6 := NI.subs
  have q3 : ((A.ns[i].kind : Int) == 3) = false := beq_eq_false_iff_ne.2 (by omega)
  have q7 : ((A.ns[i].kind : Int) == 7) = false := beq_eq_false_iff_ne.2 (by omega)
  have q8 : ((A.ns[i].kind : Int) == 8) = false := beq_eq_false_iff_ne.2 (by omega)

  have hst : bgL (bgF rs A.ns E f) E A.ns[i].kind A.ns[i].subs false ahead L = R := by
    rw [HB.out, if_neg (fun h => h3 h.1), show decide (A.ns[i].kind = 7 ∨ A.ns[i].kind = 8) = false by simp [h7, h8]]; rfl
  have HST := hide hst
  clear hst
  go_enter Try.func22, Try.ntmps22
  go_wp2_with fail
  have hL0len := hL

  obtain ⟨kb, hkb⟩ : ∃ kb, kb = w.heap.size := ⟨_, rfl⟩
  rw [← hkb]
  have hkw : wb ≠ kb := by omega
  have hO1 : objAt (w.alloc (.cells c 59)) kb = some (.cells c 59 (0, 0)) := (by rw [hkb]; exact objAt_new _ _)
  have hB1 : BoolsAt (w.alloc (.cells c 59)) wb L := (hBw.kept ((Kept.refl (fun _ => False) w).alloc _) id)
  have hK1 : Kept (· = wb) w (w.alloc (.cells c 59)) := ((Kept.refl _ w).alloc _)
  generalize hw0 : (w.alloc (.cells c 59)) = w0 at *
  generalize hll : L = L0 at *
  clear hw0 hll hkb hrow hkc k0 k4 k6 HB
  go_loopg [12, 13, 3] A.ns[i].subs.length (fun gn v12 v13 v3 wz => ∃ (q : Nat) (bad ah : Bool) (W : List Bool), q ≤ A.ns[i].subs.length ∧ gn = A.ns[i].subs.length - q ∧ v12 = .bool bad ∧ v13 = .int .i64 q ∧ v3 = .bool ah ∧ W.length = rs.length ∧ BoolsAt wz wb W ∧ Kept (· = wb) w wz ∧ objAt wz kb = some (.cells c 59 (0, 0)) ∧
    Hid (bgL (bgF rs A.ns E f) E A.ns[i].kind (A.ns[i].subs.drop q) bad ah W = R))
  case atStart => exact ⟨0, false, ahead, L0, by omega, rfl, rfl, rfl, rfl, hL0len, hB1, hK1, hO1, HST.out⟩
  case round =>
    obtain ⟨q, bad, ah, W, hq, hgq, rfl, rfl, rfl, hWl, hBz, hKz, hOz, HRR⟩ := hrel
    have HGQ := hide hgq
    clear hgq
    have hz261 : wr.cell? ⟨kb, 261, none⟩ = some v := by rw [objAt_cell hOz]; exact NI.subs
    have hz0 : wr.cell? ⟨kb, 0, none⟩ = some (.int .i64 (A.ns[i].kind : Int)) := by rw [objAt_cell hOz]; exact NI.kind
    have hsu' := ownsRow_kept hsu hKz (fun m e h => by
      obtain ⟨x, hx⟩ := ownsRow_obj hsu e
      subst h
      rw [show objAt w m = _ from hBw] at hx; simp at hx)
    by_cases hqlt : q < A.ns[i].subs.length
    · obtain ⟨sb, scap, hv, hsc⟩ := subs_cell hsu' hqlt
      rw [hv] at hz261
      have hj := hLS q hqlt
      have hRz := hR.bools hBw hKz
      have hBez : BoolsAt wr eb E := hBe.kept hKz hew
      have h1 := HRR.out
      rw [drop_getD hqlt, bgL] at h1
      generalize A.ns[i].subs.getD q 0 = j at *
      have hlenj := hlenF j ah W hWl
      have hcall := IH base b eb wb j nv rv U ah W wr hRz hBez hBz hew hWl (by omega) (by omega)
      generalize bgF rs A.ns E f j ah W = X at *
      obtain ⟨xb, X2⟩ := X
      dsimp only at *
      have HC := hide hcall
      have H1 := hide h1
      have hqlt' : (q : Int) < (A.ns[i].subs.length : Int) := by omega
      have hj' : (j : Int) < (A.ns.length : Int) := by omega
      clear h1 hcall HRR hsu'
      go_wp2_with fail
      refine HC.out.mono ?_
      rintro e w7 ⟨rfl, hB7, hK7⟩
      have hO7 := objAt_kept hOz hK7 (fun h => hkw h.symm)
      have hK7' := hKz.trans hK7
      have hBe7 : BoolsAt w7 eb E := hBez.kept hK7 hew
      have hk261 : w7.cell? ⟨kb, 261, none⟩ = some (.slice (some ⟨sb, 0, none⟩) A.ns[i].subs.length scap) := by rw [objAt_cell hO7, ← hv]; exact NI.subs
      have hk0 : w7.cell? ⟨kb, 0, none⟩ = some (.int .i64 (A.ns[i].kind : Int)) := by rw [objAt_cell hO7]; exact NI.kind
      have hsc7 : w7.cell? ⟨sb, q, none⟩ = some (.int .i64 (j : Int)) := by
        rw [hK7.cell (p := ⟨sb, q, none⟩) (World.block_lt_of_cell? _ _ hsc) (fun h => by
          have h2 : sb = wb := h
          subst h2
          have hob := (ownsRow_kept hsu hKz (fun m e h => by
            obtain ⟨x, hx⟩ := ownsRow_obj hsu e
            subst h
            rw [show objAt w m = _ from hBw] at hx; simp at hx))
          obtain ⟨x, hx⟩ := ownsRow_obj hob (k := sb) (by rw [hv]; rfl)
          rw [show objAt wr sb = _ from hBz] at hx; simp at hx)]
        exact hsc
      have hbj := hBe7.cell (i := j) (by omega)
      clear HC hRz hBez hz261 hz0 hsc hv
      by_cases h5 : A.ns[i].kind = 5
      · have q5 : ((A.ns[i].kind : Int) == 5) = true := beq_iff_eq.2 (by omega)
        cases hEj : E.getD j false
        · have h2 := H1.out
          rw [if_pos ⟨h5, hEj⟩] at h2
          rw [hEj] at hbj
          have H2 := hide h2
          clear h2 H1 h5 hEj
          cases bad
          all_goals
            go_wp2
            go_roundg (A.ns[i].subs.length - (q + 1))
            case measure => have := HGQ.out; omega
            case rel => exact ⟨q + 1, _, _, X2, by omega, rfl, rfl, by go_num, rfl, hlenj, hB7, hK7', hO7, H2.out⟩
        · have h2 := H1.out
          rw [if_neg (by rintro ⟨_, h⟩; rw [hEj] at h; cases h)] at h2
          rw [hEj] at hbj
          have H2 := hide h2
          clear h2 H1 h5 hEj
          cases bad
          all_goals
            go_wp2
            go_roundg (A.ns[i].subs.length - (q + 1))
            case measure => have := HGQ.out; omega
            case rel => exact ⟨q + 1, _, _, X2, by omega, rfl, rfl, by go_num, rfl, hlenj, hB7, hK7', hO7, H2.out⟩
      · have q5 : ((A.ns[i].kind : Int) == 5) = false := beq_eq_false_iff_ne.2 (by omega)
        have h2 := H1.out
        rw [if_neg (fun h => h5 h.1)] at h2
        have H2 := hide h2
        clear h2 H1 h5
        cases bad
        all_goals
          go_wp2
          go_roundg (A.ns[i].subs.length - (q + 1))
          case measure => have := HGQ.out; omega
          case rel => exact ⟨q + 1, _, _, X2, by omega, rfl, rfl, by go_num, rfl, hlenj, hB7, hK7', hO7, H2.out⟩
    · have h1 := HRR.out
      rw [List.drop_of_length_le (by omega), bgL] at h1
      subst h1
      obtain ⟨p0, cp0, hv0⟩ := ownsRow_form hsu
      rw [hv0] at hz261
      clear hv0 HRR
      go_wp2
      go_ret
      exact ⟨rfl, hBz, hKz⟩

set_option maxRecDepth 100000 in
set_option maxHeartbeats 12800000 in
theorem begins_behind {s : ByteArray} {rs : List Rl} {A : St} {E : List Bool} {f : Nat} (IH : BgSaid s rs A E f) (hW : WfR A.ns rs) (hN : ∀ N ∈ A.ns, N.kind = 3 → (fndI rs N.name).isSome = true) (hn : A.ns.length ≤ 5000) (hE : E.length = A.ns.length)
    (base b eb wb i : Nat) (nv rv : Value) (U : Nat → Prop) (ahead : Bool) (L : List Bool) (w : World) (hR : Rdy w base b s nv rv U A rs) (hBe : BoolsAt w eb E) (hBw : BoolsAt w wb L) (hew : eb ≠ wb) (hL : L.length = rs.length) (hlt : i < A.ns.length) (hif : i < f + 1) (h3 : A.ns[i].kind = 3) (ha : ahead = false) :
    Calls Try.prog 22 #[.pointer (some ⟨b, 0, none⟩), .int .i64 (i : Int), .slice (some ⟨eb, 0, none⟩) A.ns.length A.ns.length, .bool ahead, .slice (some ⟨wb, 0, none⟩) rs.length rs.length] w fun e w' =>
      e = .returned (.bool (bgF rs A.ns E (f + 1) i ahead L).1) ∧ BoolsAt w' wb (bgF rs A.ns E (f + 1) i ahead L).2 ∧ Kept (· = wb) w w' := by
  have hl8 := hW.len
  obtain ⟨g, cap2, c, v, cur, hnv, hog, hsz, hex, NI, hsu, _⟩ := hR.rg.nodes.get hlt
  obtain ⟨c0, c1, c2, c3, c4, c5, c6⟩ := hR.rg.gis.cells
  rw [hnv] at c0
  have hrow : ((w.alloc (.cells z59 59)).setRow w.heap.size c) = w.alloc (.cells c 59) := World.setRow_alloc_new w z59 c 59
  have ho := ones_of NI.one
  have hcs : Sz c := NI.size
  have hz : Sz z59 := z59_size
  have hkc : ∀ j, (w.alloc (.cells c 59)).cell? ⟨w.heap.size, j, none⟩ = c[j]? := fun j => objAt_cell (objAt_new w _)
  have heb := objAt_lt hBe
  have hwb := objAt_lt hBw
  have hNk := hW.wf i A.ns[i] (List.getElem?_eq_getElem hlt)
  have hLS := subs_low hNk.low
  have hsle := ownsRow_le hsu
  have HB : Hid (bgF rs A.ns E (f + 1) i ahead L = bgL (bgF rs A.ns E f) E A.ns[i].kind A.ns[i].subs (decide (A.ns[i].kind = 7 ∨ A.ns[i].kind = 8) && E.getD (A.ns[i].subs.getD 0 0) false) ahead
      (if A.ns[i].kind = 3 ∧ ahead = true then L.set ((fndI rs A.ns[i].name).getD 0) true else L)) := by
    unfold Hid; rw [bgF, nth_get hlt]
  have hlenF : ∀ j a W, W.length = rs.length → (bgF rs A.ns E f j a W).2.length = rs.length := fun j a W h => bgF_len f j a W h
  generalize bgF rs A.ns E (f + 1) i ahead L = R at *
  have k0 : c[0]? = some (.int .i64 (A.ns[i].kind : Int)) := NI.kind
  have k4 := NI.name
  have k6 := NI.subs
  subst ha
  have q3 : ((A.ns[i].kind : Int) == 3) = true := beq_iff_eq.2 (by omega)
  have q7 : ((A.ns[i].kind : Int) == 7) = false := beq_eq_false_iff_ne.2 (by omega)
  have q8 : ((A.ns[i].kind : Int) == 8) = false := beq_eq_false_iff_ne.2 (by omega)

  have hst : bgL (bgF rs A.ns E f) E A.ns[i].kind A.ns[i].subs false false L = R := by
    rw [HB.out, if_neg (fun h => by cases h.2), show decide (A.ns[i].kind = 7 ∨ A.ns[i].kind = 8) = false by simp [h3]]; rfl
  have HST := hide hst
  clear hst h3
  go_enter Try.func22, Try.ntmps22
  go_wp2_with fail
  have hL0len := hL

  obtain ⟨kb, hkb⟩ : ∃ kb, kb = w.heap.size := ⟨_, rfl⟩
  rw [← hkb]
  have hkw : wb ≠ kb := by omega
  have hO1 : objAt (w.alloc (.cells c 59)) kb = some (.cells c 59 (0, 0)) := (by rw [hkb]; exact objAt_new _ _)
  have hB1 : BoolsAt (w.alloc (.cells c 59)) wb L := (hBw.kept ((Kept.refl (fun _ => False) w).alloc _) id)
  have hK1 : Kept (· = wb) w (w.alloc (.cells c 59)) := ((Kept.refl _ w).alloc _)
  generalize hw0 : (w.alloc (.cells c 59)) = w0 at *
  generalize hll : L = L0 at *
  clear hw0 hll hkb hrow hkc k0 k4 k6 HB
  go_loopg [12, 13, 3] A.ns[i].subs.length (fun gn v12 v13 v3 wz => ∃ (q : Nat) (bad ah : Bool) (W : List Bool), q ≤ A.ns[i].subs.length ∧ gn = A.ns[i].subs.length - q ∧ v12 = .bool bad ∧ v13 = .int .i64 q ∧ v3 = .bool ah ∧ W.length = rs.length ∧ BoolsAt wz wb W ∧ Kept (· = wb) w wz ∧ objAt wz kb = some (.cells c 59 (0, 0)) ∧
    Hid (bgL (bgF rs A.ns E f) E A.ns[i].kind (A.ns[i].subs.drop q) bad ah W = R))
  case atStart => exact ⟨0, false, false, L0, by omega, rfl, rfl, rfl, rfl, hL0len, hB1, hK1, hO1, HST.out⟩
  case round =>
    obtain ⟨q, bad, ah, W, hq, hgq, rfl, rfl, rfl, hWl, hBz, hKz, hOz, HRR⟩ := hrel
    have HGQ := hide hgq
    clear hgq
    have hz261 : wr.cell? ⟨kb, 261, none⟩ = some v := by rw [objAt_cell hOz]; exact NI.subs
    have hz0 : wr.cell? ⟨kb, 0, none⟩ = some (.int .i64 (A.ns[i].kind : Int)) := by rw [objAt_cell hOz]; exact NI.kind
    have hsu' := ownsRow_kept hsu hKz (fun m e h => by
      obtain ⟨x, hx⟩ := ownsRow_obj hsu e
      subst h
      rw [show objAt w m = _ from hBw] at hx; simp at hx)
    by_cases hqlt : q < A.ns[i].subs.length
    · obtain ⟨sb, scap, hv, hsc⟩ := subs_cell hsu' hqlt
      rw [hv] at hz261
      have hj := hLS q hqlt
      have hRz := hR.bools hBw hKz
      have hBez : BoolsAt wr eb E := hBe.kept hKz hew
      have h1 := HRR.out
      rw [drop_getD hqlt, bgL] at h1
      generalize A.ns[i].subs.getD q 0 = j at *
      have hlenj := hlenF j ah W hWl
      have hcall := IH base b eb wb j nv rv U ah W wr hRz hBez hBz hew hWl (by omega) (by omega)
      generalize bgF rs A.ns E f j ah W = X at *
      obtain ⟨xb, X2⟩ := X
      dsimp only at *
      have HC := hide hcall
      have H1 := hide h1
      have hqlt' : (q : Int) < (A.ns[i].subs.length : Int) := by omega
      have hj' : (j : Int) < (A.ns.length : Int) := by omega
      clear h1 hcall HRR hsu'
      go_wp2_with fail
      refine HC.out.mono ?_
      rintro e w7 ⟨rfl, hB7, hK7⟩
      have hO7 := objAt_kept hOz hK7 (fun h => hkw h.symm)
      have hK7' := hKz.trans hK7
      have hBe7 : BoolsAt w7 eb E := hBez.kept hK7 hew
      have hk261 : w7.cell? ⟨kb, 261, none⟩ = some (.slice (some ⟨sb, 0, none⟩) A.ns[i].subs.length scap) := by rw [objAt_cell hO7, ← hv]; exact NI.subs
      have hk0 : w7.cell? ⟨kb, 0, none⟩ = some (.int .i64 (A.ns[i].kind : Int)) := by rw [objAt_cell hO7]; exact NI.kind
      have hsc7 : w7.cell? ⟨sb, q, none⟩ = some (.int .i64 (j : Int)) := by
        rw [hK7.cell (p := ⟨sb, q, none⟩) (World.block_lt_of_cell? _ _ hsc) (fun h => by
          have h2 : sb = wb := h
          subst h2
          have hob := (ownsRow_kept hsu hKz (fun m e h => by
            obtain ⟨x, hx⟩ := ownsRow_obj hsu e
            subst h
            rw [show objAt w m = _ from hBw] at hx; simp at hx))
          obtain ⟨x, hx⟩ := ownsRow_obj hob (k := sb) (by rw [hv]; rfl)
          rw [show objAt wr sb = _ from hBz] at hx; simp at hx)]
        exact hsc
      have hbj := hBe7.cell (i := j) (by omega)
      clear HC hRz hBez hz261 hz0 hsc hv
      by_cases h5 : A.ns[i].kind = 5
      · have q5 : ((A.ns[i].kind : Int) == 5) = true := beq_iff_eq.2 (by omega)
        cases hEj : E.getD j false
        · have h2 := H1.out
          rw [if_pos ⟨h5, hEj⟩] at h2
          rw [hEj] at hbj
          have H2 := hide h2
          clear h2 H1 h5 hEj
          cases bad
          all_goals
            go_wp2
            go_roundg (A.ns[i].subs.length - (q + 1))
            case measure => have := HGQ.out; omega
            case rel => exact ⟨q + 1, _, _, X2, by omega, rfl, rfl, by go_num, rfl, hlenj, hB7, hK7', hO7, H2.out⟩
        · have h2 := H1.out
          rw [if_neg (by rintro ⟨_, h⟩; rw [hEj] at h; cases h)] at h2
          rw [hEj] at hbj
          have H2 := hide h2
          clear h2 H1 h5 hEj
          cases bad
          all_goals
            go_wp2
            go_roundg (A.ns[i].subs.length - (q + 1))
            case measure => have := HGQ.out; omega
            case rel => exact ⟨q + 1, _, _, X2, by omega, rfl, rfl, by go_num, rfl, hlenj, hB7, hK7', hO7, H2.out⟩
      · have q5 : ((A.ns[i].kind : Int) == 5) = false := beq_eq_false_iff_ne.2 (by omega)
        have h2 := H1.out
        rw [if_neg (fun h => h5 h.1)] at h2
        have H2 := hide h2
        clear h2 H1 h5
        cases bad
        all_goals
          go_wp2
          go_roundg (A.ns[i].subs.length - (q + 1))
          case measure => have := HGQ.out; omega
          case rel => exact ⟨q + 1, _, _, X2, by omega, rfl, rfl, by go_num, rfl, hlenj, hB7, hK7', hO7, H2.out⟩
    · have h1 := HRR.out
      rw [List.drop_of_length_le (by omega), bgL] at h1
      subst h1
      obtain ⟨p0, cp0, hv0⟩ := ownsRow_form hsu
      rw [hv0] at hz261
      clear hv0 HRR
      go_wp2
      go_ret
      exact ⟨rfl, hBz, hKz⟩

set_option maxRecDepth 100000 in
set_option maxHeartbeats 12800000 in
theorem begins_rep7 {s : ByteArray} {rs : List Rl} {A : St} {E : List Bool} {f : Nat} (IH : BgSaid s rs A E f) (hW : WfR A.ns rs) (hN : ∀ N ∈ A.ns, N.kind = 3 → (fndI rs N.name).isSome = true) (hn : A.ns.length ≤ 5000) (hE : E.length = A.ns.length)
    (base b eb wb i : Nat) (nv rv : Value) (U : Nat → Prop) (ahead : Bool) (L : List Bool) (w : World) (hR : Rdy w base b s nv rv U A rs) (hBe : BoolsAt w eb E) (hBw : BoolsAt w wb L) (hew : eb ≠ wb) (hL : L.length = rs.length) (hlt : i < A.ns.length) (hif : i < f + 1) (hK : A.ns[i].kind = 7) :
    Calls Try.prog 22 #[.pointer (some ⟨b, 0, none⟩), .int .i64 (i : Int), .slice (some ⟨eb, 0, none⟩) A.ns.length A.ns.length, .bool ahead, .slice (some ⟨wb, 0, none⟩) rs.length rs.length] w fun e w' =>
      e = .returned (.bool (bgF rs A.ns E (f + 1) i ahead L).1) ∧ BoolsAt w' wb (bgF rs A.ns E (f + 1) i ahead L).2 ∧ Kept (· = wb) w w' := by
  have hl8 := hW.len
  obtain ⟨g, cap2, c, v, cur, hnv, hog, hsz, hex, NI, hsu, _⟩ := hR.rg.nodes.get hlt
  obtain ⟨c0, c1, c2, c3, c4, c5, c6⟩ := hR.rg.gis.cells
  rw [hnv] at c0
  have hrow : ((w.alloc (.cells z59 59)).setRow w.heap.size c) = w.alloc (.cells c 59) := World.setRow_alloc_new w z59 c 59
  have ho := ones_of NI.one
  have hcs : Sz c := NI.size
  have hz : Sz z59 := z59_size
  have hkc : ∀ j, (w.alloc (.cells c 59)).cell? ⟨w.heap.size, j, none⟩ = c[j]? := fun j => objAt_cell (objAt_new w _)
  have heb := objAt_lt hBe
  have hwb := objAt_lt hBw
  have hNk := hW.wf i A.ns[i] (List.getElem?_eq_getElem hlt)
  have hLS := subs_low hNk.low
  have hsle := ownsRow_le hsu
  have HB : Hid (bgF rs A.ns E (f + 1) i ahead L = bgL (bgF rs A.ns E f) E A.ns[i].kind A.ns[i].subs (decide (A.ns[i].kind = 7 ∨ A.ns[i].kind = 8) && E.getD (A.ns[i].subs.getD 0 0) false) ahead
      (if A.ns[i].kind = 3 ∧ ahead = true then L.set ((fndI rs A.ns[i].name).getD 0) true else L)) := by
    unfold Hid; rw [bgF, nth_get hlt]
  have hlenF : ∀ j a W, W.length = rs.length → (bgF rs A.ns E f j a W).2.length = rs.length := fun j a W h => bgF_len f j a W h
  generalize bgF rs A.ns E (f + 1) i ahead L = R at *
  have k0 : c[0]? = some (.int .i64 (A.ns[i].kind : Int)) := NI.kind
  have k4 := NI.name
  have k6 := NI.subs
  have q3 : ((A.ns[i].kind : Int) == 3) = false := beq_eq_false_iff_ne.2 (by omega)

  have q7 : ((A.ns[i].kind : Int) == 7) = true := beq_iff_eq.2 (by omega)
  obtain ⟨x, hx⟩ := hNk.one (by omega)
  have hpos : 0 < A.ns[i].subs.length := by rw [hx]; simp
  obtain ⟨sb0, scap0, hv0, hsc0⟩ := subs_cell hsu hpos
  have hj0 := hLS 0 hpos
  have hsb0 : sb0 < w.heap.size := (hsu.lt sb0 (by rw [hv0]; rfl)).2
  have hsl0 : ∀ o, (w.alloc (.cells c 59)).cell? ⟨sb0, o, none⟩ = w.cell? ⟨sb0, o, none⟩ := fun o => World.cell?_alloc_lt _ _ _ hsb0
  have hel0 : ∀ o, (w.alloc (.cells c 59)).cell? ⟨eb, o, none⟩ = w.cell? ⟨eb, o, none⟩ := fun o => World.cell?_alloc_lt _ _ _ heb
  have hst : bgL (bgF rs A.ns E f) E A.ns[i].kind A.ns[i].subs (E.getD (A.ns[i].subs.getD 0 0) false) ahead L = R := by
    rw [HB.out, if_neg (fun h => by have := h.1; omega), show decide (A.ns[i].kind = 7 ∨ A.ns[i].kind = 8) = true by simp [hK], Bool.true_and]
  have HST := hide hst
  have hpos' : (0 : Int) < (A.ns[i].subs.length : Int) := by omega
  have hbe0 := hBe.cell (i := A.ns[i].subs.getD 0 0) (by omega)
  have hj0' : ((A.ns[i].subs.getD 0 0 : Nat) : Int) < (A.ns.length : Int) := by omega
  generalize hbd : E.getD (A.ns[i].subs.getD 0 0) false = bd at *
  generalize A.ns[i].subs.getD 0 0 = j0 at *
  have k6' := k6
  rw [hv0] at k6'
  clear k6
  have k6 := k6'
  clear hst hK hx hbd hv0 k6'
  go_enter Try.func22, Try.ntmps22
  go_wp2_with fail
  have hL0len := hL

  obtain ⟨kb, hkb⟩ : ∃ kb, kb = w.heap.size := ⟨_, rfl⟩
  rw [← hkb]
  have hkw : wb ≠ kb := by omega
  have hO1 : objAt (w.alloc (.cells c 59)) kb = some (.cells c 59 (0, 0)) := (by rw [hkb]; exact objAt_new _ _)
  have hB1 : BoolsAt (w.alloc (.cells c 59)) wb L := (hBw.kept ((Kept.refl (fun _ => False) w).alloc _) id)
  have hK1 : Kept (· = wb) w (w.alloc (.cells c 59)) := ((Kept.refl _ w).alloc _)
  generalize hw0 : (w.alloc (.cells c 59)) = w0 at *
  generalize hll : L = L0 at *
  clear hw0 hll hkb hrow hkc k0 k4 k6 HB hsl0 hel0 hsc0 hbe0
  go_loopg [12, 13, 3] A.ns[i].subs.length (fun gn v12 v13 v3 wz => ∃ (q : Nat) (bad ah : Bool) (W : List Bool), q ≤ A.ns[i].subs.length ∧ gn = A.ns[i].subs.length - q ∧ v12 = .bool bad ∧ v13 = .int .i64 q ∧ v3 = .bool ah ∧ W.length = rs.length ∧ BoolsAt wz wb W ∧ Kept (· = wb) w wz ∧ objAt wz kb = some (.cells c 59 (0, 0)) ∧
    Hid (bgL (bgF rs A.ns E f) E A.ns[i].kind (A.ns[i].subs.drop q) bad ah W = R))
  case atStart => exact ⟨0, bd, ahead, L0, by omega, rfl, rfl, rfl, rfl, hL0len, hB1, hK1, hO1, HST.out⟩
  case round =>
    obtain ⟨q, bad, ah, W, hq, hgq, rfl, rfl, rfl, hWl, hBz, hKz, hOz, HRR⟩ := hrel
    have HGQ := hide hgq
    clear hgq
    have hz261 : wr.cell? ⟨kb, 261, none⟩ = some v := by rw [objAt_cell hOz]; exact NI.subs
    have hz0 : wr.cell? ⟨kb, 0, none⟩ = some (.int .i64 (A.ns[i].kind : Int)) := by rw [objAt_cell hOz]; exact NI.kind
    have hsu' := ownsRow_kept hsu hKz (fun m e h => by
      obtain ⟨x, hx⟩ := ownsRow_obj hsu e
      subst h
      rw [show objAt w m = _ from hBw] at hx; simp at hx)
    by_cases hqlt : q < A.ns[i].subs.length
    · obtain ⟨sb, scap, hv, hsc⟩ := subs_cell hsu' hqlt
      rw [hv] at hz261
      have hj := hLS q hqlt
      have hRz := hR.bools hBw hKz
      have hBez : BoolsAt wr eb E := hBe.kept hKz hew
      have h1 := HRR.out
      rw [drop_getD hqlt, bgL] at h1
      generalize A.ns[i].subs.getD q 0 = j at *
      have hlenj := hlenF j ah W hWl
      have hcall := IH base b eb wb j nv rv U ah W wr hRz hBez hBz hew hWl (by omega) (by omega)
      generalize bgF rs A.ns E f j ah W = X at *
      obtain ⟨xb, X2⟩ := X
      dsimp only at *
      have HC := hide hcall
      have H1 := hide h1
      have hqlt' : (q : Int) < (A.ns[i].subs.length : Int) := by omega
      have hj' : (j : Int) < (A.ns.length : Int) := by omega
      clear h1 hcall HRR hsu'
      go_wp2_with fail
      refine HC.out.mono ?_
      rintro e w7 ⟨rfl, hB7, hK7⟩
      have hO7 := objAt_kept hOz hK7 (fun h => hkw h.symm)
      have hK7' := hKz.trans hK7
      have hBe7 : BoolsAt w7 eb E := hBez.kept hK7 hew
      have hk261 : w7.cell? ⟨kb, 261, none⟩ = some (.slice (some ⟨sb, 0, none⟩) A.ns[i].subs.length scap) := by rw [objAt_cell hO7, ← hv]; exact NI.subs
      have hk0 : w7.cell? ⟨kb, 0, none⟩ = some (.int .i64 (A.ns[i].kind : Int)) := by rw [objAt_cell hO7]; exact NI.kind
      have hsc7 : w7.cell? ⟨sb, q, none⟩ = some (.int .i64 (j : Int)) := by
        rw [hK7.cell (p := ⟨sb, q, none⟩) (World.block_lt_of_cell? _ _ hsc) (fun h => by
          have h2 : sb = wb := h
          subst h2
          have hob := (ownsRow_kept hsu hKz (fun m e h => by
            obtain ⟨x, hx⟩ := ownsRow_obj hsu e
            subst h
            rw [show objAt w m = _ from hBw] at hx; simp at hx))
          obtain ⟨x, hx⟩ := ownsRow_obj hob (k := sb) (by rw [hv]; rfl)
          rw [show objAt wr sb = _ from hBz] at hx; simp at hx)]
        exact hsc
      have hbj := hBe7.cell (i := j) (by omega)
      clear HC hRz hBez hz261 hz0 hsc hv
      by_cases h5 : A.ns[i].kind = 5
      · have q5 : ((A.ns[i].kind : Int) == 5) = true := beq_iff_eq.2 (by omega)
        cases hEj : E.getD j false
        · have h2 := H1.out
          rw [if_pos ⟨h5, hEj⟩] at h2
          rw [hEj] at hbj
          have H2 := hide h2
          clear h2 H1 h5 hEj
          cases bad
          all_goals
            go_wp2
            go_roundg (A.ns[i].subs.length - (q + 1))
            case measure => have := HGQ.out; omega
            case rel => exact ⟨q + 1, _, _, X2, by omega, rfl, rfl, by go_num, rfl, hlenj, hB7, hK7', hO7, H2.out⟩
        · have h2 := H1.out
          rw [if_neg (by rintro ⟨_, h⟩; rw [hEj] at h; cases h)] at h2
          rw [hEj] at hbj
          have H2 := hide h2
          clear h2 H1 h5 hEj
          cases bad
          all_goals
            go_wp2
            go_roundg (A.ns[i].subs.length - (q + 1))
            case measure => have := HGQ.out; omega
            case rel => exact ⟨q + 1, _, _, X2, by omega, rfl, rfl, by go_num, rfl, hlenj, hB7, hK7', hO7, H2.out⟩
      · have q5 : ((A.ns[i].kind : Int) == 5) = false := beq_eq_false_iff_ne.2 (by omega)
        have h2 := H1.out
        rw [if_neg (fun h => h5 h.1)] at h2
        have H2 := hide h2
        clear h2 H1 h5
        cases bad
        all_goals
          go_wp2
          go_roundg (A.ns[i].subs.length - (q + 1))
          case measure => have := HGQ.out; omega
          case rel => exact ⟨q + 1, _, _, X2, by omega, rfl, rfl, by go_num, rfl, hlenj, hB7, hK7', hO7, H2.out⟩
    · have h1 := HRR.out
      rw [List.drop_of_length_le (by omega), bgL] at h1
      subst h1
      obtain ⟨p0, cp0, hv0⟩ := ownsRow_form hsu
      rw [hv0] at hz261
      clear hv0 HRR
      go_wp2
      go_ret
      exact ⟨rfl, hBz, hKz⟩

set_option maxRecDepth 100000 in
set_option maxHeartbeats 12800000 in
theorem begins_rep8 {s : ByteArray} {rs : List Rl} {A : St} {E : List Bool} {f : Nat} (IH : BgSaid s rs A E f) (hW : WfR A.ns rs) (hN : ∀ N ∈ A.ns, N.kind = 3 → (fndI rs N.name).isSome = true) (hn : A.ns.length ≤ 5000) (hE : E.length = A.ns.length)
    (base b eb wb i : Nat) (nv rv : Value) (U : Nat → Prop) (ahead : Bool) (L : List Bool) (w : World) (hR : Rdy w base b s nv rv U A rs) (hBe : BoolsAt w eb E) (hBw : BoolsAt w wb L) (hew : eb ≠ wb) (hL : L.length = rs.length) (hlt : i < A.ns.length) (hif : i < f + 1) (hK : A.ns[i].kind = 8) :
    Calls Try.prog 22 #[.pointer (some ⟨b, 0, none⟩), .int .i64 (i : Int), .slice (some ⟨eb, 0, none⟩) A.ns.length A.ns.length, .bool ahead, .slice (some ⟨wb, 0, none⟩) rs.length rs.length] w fun e w' =>
      e = .returned (.bool (bgF rs A.ns E (f + 1) i ahead L).1) ∧ BoolsAt w' wb (bgF rs A.ns E (f + 1) i ahead L).2 ∧ Kept (· = wb) w w' := by
  have hl8 := hW.len
  obtain ⟨g, cap2, c, v, cur, hnv, hog, hsz, hex, NI, hsu, _⟩ := hR.rg.nodes.get hlt
  obtain ⟨c0, c1, c2, c3, c4, c5, c6⟩ := hR.rg.gis.cells
  rw [hnv] at c0
  have hrow : ((w.alloc (.cells z59 59)).setRow w.heap.size c) = w.alloc (.cells c 59) := World.setRow_alloc_new w z59 c 59
  have ho := ones_of NI.one
  have hcs : Sz c := NI.size
  have hz : Sz z59 := z59_size
  have hkc : ∀ j, (w.alloc (.cells c 59)).cell? ⟨w.heap.size, j, none⟩ = c[j]? := fun j => objAt_cell (objAt_new w _)
  have heb := objAt_lt hBe
  have hwb := objAt_lt hBw
  have hNk := hW.wf i A.ns[i] (List.getElem?_eq_getElem hlt)
  have hLS := subs_low hNk.low
  have hsle := ownsRow_le hsu
  have HB : Hid (bgF rs A.ns E (f + 1) i ahead L = bgL (bgF rs A.ns E f) E A.ns[i].kind A.ns[i].subs (decide (A.ns[i].kind = 7 ∨ A.ns[i].kind = 8) && E.getD (A.ns[i].subs.getD 0 0) false) ahead
      (if A.ns[i].kind = 3 ∧ ahead = true then L.set ((fndI rs A.ns[i].name).getD 0) true else L)) := by
    unfold Hid; rw [bgF, nth_get hlt]
  have hlenF : ∀ j a W, W.length = rs.length → (bgF rs A.ns E f j a W).2.length = rs.length := fun j a W h => bgF_len f j a W h
  generalize bgF rs A.ns E (f + 1) i ahead L = R at *
  have k0 : c[0]? = some (.int .i64 (A.ns[i].kind : Int)) := NI.kind
  have k4 := NI.name
  have k6 := NI.subs
  have q3 : ((A.ns[i].kind : Int) == 3) = false := beq_eq_false_iff_ne.2 (by omega)
  have q7 : ((A.ns[i].kind : Int) == 7) = false := beq_eq_false_iff_ne.2 (by omega)

  have q8 : ((A.ns[i].kind : Int) == 8) = true := beq_iff_eq.2 (by omega)
  obtain ⟨x, hx⟩ := hNk.one (by omega)
  have hpos : 0 < A.ns[i].subs.length := by rw [hx]; simp
  obtain ⟨sb0, scap0, hv0, hsc0⟩ := subs_cell hsu hpos
  have hj0 := hLS 0 hpos
  have hsb0 : sb0 < w.heap.size := (hsu.lt sb0 (by rw [hv0]; rfl)).2
  have hsl0 : ∀ o, (w.alloc (.cells c 59)).cell? ⟨sb0, o, none⟩ = w.cell? ⟨sb0, o, none⟩ := fun o => World.cell?_alloc_lt _ _ _ hsb0
  have hel0 : ∀ o, (w.alloc (.cells c 59)).cell? ⟨eb, o, none⟩ = w.cell? ⟨eb, o, none⟩ := fun o => World.cell?_alloc_lt _ _ _ heb
  have hst : bgL (bgF rs A.ns E f) E A.ns[i].kind A.ns[i].subs (E.getD (A.ns[i].subs.getD 0 0) false) ahead L = R := by
    rw [HB.out, if_neg (fun h => by have := h.1; omega), show decide (A.ns[i].kind = 7 ∨ A.ns[i].kind = 8) = true by simp [hK], Bool.true_and]
  have HST := hide hst
  have hpos' : (0 : Int) < (A.ns[i].subs.length : Int) := by omega
  have hbe0 := hBe.cell (i := A.ns[i].subs.getD 0 0) (by omega)
  have hj0' : ((A.ns[i].subs.getD 0 0 : Nat) : Int) < (A.ns.length : Int) := by omega
  generalize hbd : E.getD (A.ns[i].subs.getD 0 0) false = bd at *
  generalize A.ns[i].subs.getD 0 0 = j0 at *
  have k6' := k6
  rw [hv0] at k6'
  clear k6
  have k6 := k6'
  clear hst hK hx hbd hv0 k6'
  go_enter Try.func22, Try.ntmps22
  go_wp2_with fail
  have hL0len := hL

  obtain ⟨kb, hkb⟩ : ∃ kb, kb = w.heap.size := ⟨_, rfl⟩
  rw [← hkb]
  have hkw : wb ≠ kb := by omega
  have hO1 : objAt (w.alloc (.cells c 59)) kb = some (.cells c 59 (0, 0)) := (by rw [hkb]; exact objAt_new _ _)
  have hB1 : BoolsAt (w.alloc (.cells c 59)) wb L := (hBw.kept ((Kept.refl (fun _ => False) w).alloc _) id)
  have hK1 : Kept (· = wb) w (w.alloc (.cells c 59)) := ((Kept.refl _ w).alloc _)
  generalize hw0 : (w.alloc (.cells c 59)) = w0 at *
  generalize hll : L = L0 at *
  clear hw0 hll hkb hrow hkc k0 k4 k6 HB hsl0 hel0 hsc0 hbe0
  go_loopg [12, 13, 3] A.ns[i].subs.length (fun gn v12 v13 v3 wz => ∃ (q : Nat) (bad ah : Bool) (W : List Bool), q ≤ A.ns[i].subs.length ∧ gn = A.ns[i].subs.length - q ∧ v12 = .bool bad ∧ v13 = .int .i64 q ∧ v3 = .bool ah ∧ W.length = rs.length ∧ BoolsAt wz wb W ∧ Kept (· = wb) w wz ∧ objAt wz kb = some (.cells c 59 (0, 0)) ∧
    Hid (bgL (bgF rs A.ns E f) E A.ns[i].kind (A.ns[i].subs.drop q) bad ah W = R))
  case atStart => exact ⟨0, bd, ahead, L0, by omega, rfl, rfl, rfl, rfl, hL0len, hB1, hK1, hO1, HST.out⟩
  case round =>
    obtain ⟨q, bad, ah, W, hq, hgq, rfl, rfl, rfl, hWl, hBz, hKz, hOz, HRR⟩ := hrel
    have HGQ := hide hgq
    clear hgq
    have hz261 : wr.cell? ⟨kb, 261, none⟩ = some v := by rw [objAt_cell hOz]; exact NI.subs
    have hz0 : wr.cell? ⟨kb, 0, none⟩ = some (.int .i64 (A.ns[i].kind : Int)) := by rw [objAt_cell hOz]; exact NI.kind
    have hsu' := ownsRow_kept hsu hKz (fun m e h => by
      obtain ⟨x, hx⟩ := ownsRow_obj hsu e
      subst h
      rw [show objAt w m = _ from hBw] at hx; simp at hx)
    by_cases hqlt : q < A.ns[i].subs.length
    · obtain ⟨sb, scap, hv, hsc⟩ := subs_cell hsu' hqlt
      rw [hv] at hz261
      have hj := hLS q hqlt
      have hRz := hR.bools hBw hKz
      have hBez : BoolsAt wr eb E := hBe.kept hKz hew
      have h1 := HRR.out
      rw [drop_getD hqlt, bgL] at h1
      generalize A.ns[i].subs.getD q 0 = j at *
      have hlenj := hlenF j ah W hWl
      have hcall := IH base b eb wb j nv rv U ah W wr hRz hBez hBz hew hWl (by omega) (by omega)
      generalize bgF rs A.ns E f j ah W = X at *
      obtain ⟨xb, X2⟩ := X
      dsimp only at *
      have HC := hide hcall
      have H1 := hide h1
      have hqlt' : (q : Int) < (A.ns[i].subs.length : Int) := by omega
      have hj' : (j : Int) < (A.ns.length : Int) := by omega
      clear h1 hcall HRR hsu'
      go_wp2_with fail
      refine HC.out.mono ?_
      rintro e w7 ⟨rfl, hB7, hK7⟩
      have hO7 := objAt_kept hOz hK7 (fun h => hkw h.symm)
      have hK7' := hKz.trans hK7
      have hBe7 : BoolsAt w7 eb E := hBez.kept hK7 hew
      have hk261 : w7.cell? ⟨kb, 261, none⟩ = some (.slice (some ⟨sb, 0, none⟩) A.ns[i].subs.length scap) := by rw [objAt_cell hO7, ← hv]; exact NI.subs
      have hk0 : w7.cell? ⟨kb, 0, none⟩ = some (.int .i64 (A.ns[i].kind : Int)) := by rw [objAt_cell hO7]; exact NI.kind
      have hsc7 : w7.cell? ⟨sb, q, none⟩ = some (.int .i64 (j : Int)) := by
        rw [hK7.cell (p := ⟨sb, q, none⟩) (World.block_lt_of_cell? _ _ hsc) (fun h => by
          have h2 : sb = wb := h
          subst h2
          have hob := (ownsRow_kept hsu hKz (fun m e h => by
            obtain ⟨x, hx⟩ := ownsRow_obj hsu e
            subst h
            rw [show objAt w m = _ from hBw] at hx; simp at hx))
          obtain ⟨x, hx⟩ := ownsRow_obj hob (k := sb) (by rw [hv]; rfl)
          rw [show objAt wr sb = _ from hBz] at hx; simp at hx)]
        exact hsc
      have hbj := hBe7.cell (i := j) (by omega)
      clear HC hRz hBez hz261 hz0 hsc hv
      by_cases h5 : A.ns[i].kind = 5
      · have q5 : ((A.ns[i].kind : Int) == 5) = true := beq_iff_eq.2 (by omega)
        cases hEj : E.getD j false
        · have h2 := H1.out
          rw [if_pos ⟨h5, hEj⟩] at h2
          rw [hEj] at hbj
          have H2 := hide h2
          clear h2 H1 h5 hEj
          cases bad
          all_goals
            go_wp2
            go_roundg (A.ns[i].subs.length - (q + 1))
            case measure => have := HGQ.out; omega
            case rel => exact ⟨q + 1, _, _, X2, by omega, rfl, rfl, by go_num, rfl, hlenj, hB7, hK7', hO7, H2.out⟩
        · have h2 := H1.out
          rw [if_neg (by rintro ⟨_, h⟩; rw [hEj] at h; cases h)] at h2
          rw [hEj] at hbj
          have H2 := hide h2
          clear h2 H1 h5 hEj
          cases bad
          all_goals
            go_wp2
            go_roundg (A.ns[i].subs.length - (q + 1))
            case measure => have := HGQ.out; omega
            case rel => exact ⟨q + 1, _, _, X2, by omega, rfl, rfl, by go_num, rfl, hlenj, hB7, hK7', hO7, H2.out⟩
      · have q5 : ((A.ns[i].kind : Int) == 5) = false := beq_eq_false_iff_ne.2 (by omega)
        have h2 := H1.out
        rw [if_neg (fun h => h5 h.1)] at h2
        have H2 := hide h2
        clear h2 H1 h5
        cases bad
        all_goals
          go_wp2
          go_roundg (A.ns[i].subs.length - (q + 1))
          case measure => have := HGQ.out; omega
          case rel => exact ⟨q + 1, _, _, X2, by omega, rfl, rfl, by go_num, rfl, hlenj, hB7, hK7', hO7, H2.out⟩
    · have h1 := HRR.out
      rw [List.drop_of_length_le (by omega), bgL] at h1
      subst h1
      obtain ⟨p0, cp0, hv0⟩ := ownsRow_form hsu
      rw [hv0] at hz261
      clear hv0 HRR
      go_wp2
      go_ret
      exact ⟨rfl, hBz, hKz⟩

set_option maxRecDepth 100000 in
set_option maxHeartbeats 12800000 in
theorem begins_front {s : ByteArray} {rs : List Rl} {A : St} {E : List Bool} {f : Nat} (IH : BgSaid s rs A E f) (hW : WfR A.ns rs) (hN : ∀ N ∈ A.ns, N.kind = 3 → (fndI rs N.name).isSome = true) (hn : A.ns.length ≤ 5000) (hE : E.length = A.ns.length)
    (base b eb wb i : Nat) (nv rv : Value) (U : Nat → Prop) (ahead : Bool) (L : List Bool) (w : World) (hR : Rdy w base b s nv rv U A rs) (hBe : BoolsAt w eb E) (hBw : BoolsAt w wb L) (hew : eb ≠ wb) (hL : L.length = rs.length) (hlt : i < A.ns.length) (hif : i < f + 1) (h3 : A.ns[i].kind = 3) (ha : ahead = true) :
    Calls Try.prog 22 #[.pointer (some ⟨b, 0, none⟩), .int .i64 (i : Int), .slice (some ⟨eb, 0, none⟩) A.ns.length A.ns.length, .bool ahead, .slice (some ⟨wb, 0, none⟩) rs.length rs.length] w fun e w' =>
      e = .returned (.bool (bgF rs A.ns E (f + 1) i ahead L).1) ∧ BoolsAt w' wb (bgF rs A.ns E (f + 1) i ahead L).2 ∧ Kept (· = wb) w w' := by
  have hl8 := hW.len
  obtain ⟨g, cap2, c, v, cur, hnv, hog, hsz, hex, NI, hsu, _⟩ := hR.rg.nodes.get hlt
  obtain ⟨c0, c1, c2, c3, c4, c5, c6⟩ := hR.rg.gis.cells
  rw [hnv] at c0
  have hrow : ((w.alloc (.cells z59 59)).setRow w.heap.size c) = w.alloc (.cells c 59) := World.setRow_alloc_new w z59 c 59
  have ho := ones_of NI.one
  have hcs : Sz c := NI.size
  have hz : Sz z59 := z59_size
  have hkc : ∀ j, (w.alloc (.cells c 59)).cell? ⟨w.heap.size, j, none⟩ = c[j]? := fun j => objAt_cell (objAt_new w _)
  have heb := objAt_lt hBe
  have hwb := objAt_lt hBw
  have hNk := hW.wf i A.ns[i] (List.getElem?_eq_getElem hlt)
  have hLS := subs_low hNk.low
  have hsle := ownsRow_le hsu
  have HB : Hid (bgF rs A.ns E (f + 1) i ahead L = bgL (bgF rs A.ns E f) E A.ns[i].kind A.ns[i].subs (decide (A.ns[i].kind = 7 ∨ A.ns[i].kind = 8) && E.getD (A.ns[i].subs.getD 0 0) false) ahead
      (if A.ns[i].kind = 3 ∧ ahead = true then L.set ((fndI rs A.ns[i].name).getD 0) true else L)) := by
    unfold Hid; rw [bgF, nth_get hlt]
  have hlenF : ∀ j a W, W.length = rs.length → (bgF rs A.ns E f j a W).2.length = rs.length := fun j a W h => bgF_len f j a W h
  generalize bgF rs A.ns E (f + 1) i ahead L = R at *
  have k0 : c[0]? = some (.int .i64 (A.ns[i].kind : Int)) := NI.kind
  have k4 := NI.name
  have k6 := NI.subs
  subst ha
  have q3 : ((A.ns[i].kind : Int) == 3) = true := beq_iff_eq.2 (by omega)
  have q7 : ((A.ns[i].kind : Int) == 7) = false := beq_eq_false_iff_ne.2 (by omega)
  have q8 : ((A.ns[i].kind : Int) == 8) = false := beq_eq_false_iff_ne.2 (by omega)

  obtain ⟨fi, hfi⟩ := Option.isSome_iff_exists.1 (hN A.ns[i] (List.getElem_mem _) h3)
  have hfl2 := fndI_lt hfi
  have hfn : fnd rs A.ns[i].name = (fi : Int) := by unfold fnd; rw [hfi]
  have hst : bgL (bgF rs A.ns E f) E A.ns[i].kind A.ns[i].subs false true (L.set fi true) = R := by
    rw [HB.out, if_pos ⟨h3, rfl⟩, hfi, show decide (A.ns[i].kind = 7 ∨ A.ns[i].kind = 8) = false by simp [h3]]; rfl
  have HST := hide hst
  have hfind := find_any b s base nv rv A.sc rs A.ns[i].name
  rw [hfn] at hfind
  have HF := hide hfind
  have hR9 := hR.alloc (.cells c 59)
  have hB9 : BoolsAt (w.alloc (.cells c 59)) wb L := hBw.kept ((Kept.refl (fun _ => False) w).alloc _) id
  have hwc := hB9.cell (i := fi) (by omega)
  have hwf := hB9.frozen fi
  have hfi' : (fi : Int) < (rs.length : Int) := by omega
  have hkn : (w.alloc (.cells c 59)).cell? ⟨w.heap.size, 0, none⟩ = some (.int .i64 (A.ns[i].kind : Int)) := by rw [hkc]; exact k0
  have hk0s : ((w.alloc (.cells c 59)).setCell ⟨wb, fi, none⟩ (.bool true)).cell? ⟨w.heap.size, 0, none⟩ = some (.int .i64 (A.ns[i].kind : Int)) := by
    rw [World.cell?_setCell_other _ _ _ _ (by intro h; simp at h <;> omega)]; exact hkn
  clear hst h3 hfi hfn hfind
  go_enter Try.func22, Try.ntmps22
  go_wp2_with fail
  refine (HF.out _ hR9.rg.gis hR9.ru hl8).mono ?_
  rintro e w' ⟨rfl, rfl⟩
  go_wp2_with fail
  have hL0len : (L.set fi true).length = rs.length := by simp [hL]

  obtain ⟨kb, hkb⟩ : ∃ kb, kb = w.heap.size := ⟨_, rfl⟩
  rw [← hkb]
  have hkw : wb ≠ kb := by omega
  have hO1 : objAt ((w.setCell ⟨wb, fi, none⟩ (.bool true)).alloc (.cells c 59)) kb = some (.cells c 59 (0, 0)) := (by rw [hkb]; have h9 := objAt_new (w.setCell ⟨wb, fi, none⟩ (.bool true)) (.cells c 59); rw [show (w.setCell ⟨wb, fi, none⟩ (.bool true)).heap.size = w.heap.size by simp [World.setCell]] at h9; exact h9)
  have hB1 : BoolsAt ((w.setCell ⟨wb, fi, none⟩ (.bool true)).alloc (.cells c 59)) wb (L.set fi true) := ((hBw.set fi true).kept ((Kept.refl (fun _ => False) _).alloc _) id)
  have hK1 : Kept (· = wb) w ((w.setCell ⟨wb, fi, none⟩ (.bool true)).alloc (.cells c 59)) := (((Kept.refl (· = wb) w).setCell (fun _ => rfl) _).alloc _)
  generalize hw0 : ((w.setCell ⟨wb, fi, none⟩ (.bool true)).alloc (.cells c 59)) = w0 at *
  generalize hll : (L.set fi true) = L0 at *
  clear hw0 hll hkb hrow hkc k0 k4 k6 HB hkn hk0s hwc hwf hB9 hR9
  go_loopg [12, 13, 3] A.ns[i].subs.length (fun gn v12 v13 v3 wz => ∃ (q : Nat) (bad ah : Bool) (W : List Bool), q ≤ A.ns[i].subs.length ∧ gn = A.ns[i].subs.length - q ∧ v12 = .bool bad ∧ v13 = .int .i64 q ∧ v3 = .bool ah ∧ W.length = rs.length ∧ BoolsAt wz wb W ∧ Kept (· = wb) w wz ∧ objAt wz kb = some (.cells c 59 (0, 0)) ∧
    Hid (bgL (bgF rs A.ns E f) E A.ns[i].kind (A.ns[i].subs.drop q) bad ah W = R))
  case atStart => exact ⟨0, false, true, L0, by omega, rfl, rfl, rfl, rfl, hL0len, hB1, hK1, hO1, HST.out⟩
  case round =>
    obtain ⟨q, bad, ah, W, hq, hgq, rfl, rfl, rfl, hWl, hBz, hKz, hOz, HRR⟩ := hrel
    have HGQ := hide hgq
    clear hgq
    have hz261 : wr.cell? ⟨kb, 261, none⟩ = some v := by rw [objAt_cell hOz]; exact NI.subs
    have hz0 : wr.cell? ⟨kb, 0, none⟩ = some (.int .i64 (A.ns[i].kind : Int)) := by rw [objAt_cell hOz]; exact NI.kind
    have hsu' := ownsRow_kept hsu hKz (fun m e h => by
      obtain ⟨x, hx⟩ := ownsRow_obj hsu e
      subst h
      rw [show objAt w m = _ from hBw] at hx; simp at hx)
    by_cases hqlt : q < A.ns[i].subs.length
    · obtain ⟨sb, scap, hv, hsc⟩ := subs_cell hsu' hqlt
      rw [hv] at hz261
      have hj := hLS q hqlt
      have hRz := hR.bools hBw hKz
      have hBez : BoolsAt wr eb E := hBe.kept hKz hew
      have h1 := HRR.out
      rw [drop_getD hqlt, bgL] at h1
      generalize A.ns[i].subs.getD q 0 = j at *
      have hlenj := hlenF j ah W hWl
      have hcall := IH base b eb wb j nv rv U ah W wr hRz hBez hBz hew hWl (by omega) (by omega)
      generalize bgF rs A.ns E f j ah W = X at *
      obtain ⟨xb, X2⟩ := X
      dsimp only at *
      have HC := hide hcall
      have H1 := hide h1
      have hqlt' : (q : Int) < (A.ns[i].subs.length : Int) := by omega
      have hj' : (j : Int) < (A.ns.length : Int) := by omega
      clear h1 hcall HRR hsu'
      go_wp2_with fail
      refine HC.out.mono ?_
      rintro e w7 ⟨rfl, hB7, hK7⟩
      have hO7 := objAt_kept hOz hK7 (fun h => hkw h.symm)
      have hK7' := hKz.trans hK7
      have hBe7 : BoolsAt w7 eb E := hBez.kept hK7 hew
      have hk261 : w7.cell? ⟨kb, 261, none⟩ = some (.slice (some ⟨sb, 0, none⟩) A.ns[i].subs.length scap) := by rw [objAt_cell hO7, ← hv]; exact NI.subs
      have hk0 : w7.cell? ⟨kb, 0, none⟩ = some (.int .i64 (A.ns[i].kind : Int)) := by rw [objAt_cell hO7]; exact NI.kind
      have hsc7 : w7.cell? ⟨sb, q, none⟩ = some (.int .i64 (j : Int)) := by
        rw [hK7.cell (p := ⟨sb, q, none⟩) (World.block_lt_of_cell? _ _ hsc) (fun h => by
          have h2 : sb = wb := h
          subst h2
          have hob := (ownsRow_kept hsu hKz (fun m e h => by
            obtain ⟨x, hx⟩ := ownsRow_obj hsu e
            subst h
            rw [show objAt w m = _ from hBw] at hx; simp at hx))
          obtain ⟨x, hx⟩ := ownsRow_obj hob (k := sb) (by rw [hv]; rfl)
          rw [show objAt wr sb = _ from hBz] at hx; simp at hx)]
        exact hsc
      have hbj := hBe7.cell (i := j) (by omega)
      clear HC hRz hBez hz261 hz0 hsc hv
      by_cases h5 : A.ns[i].kind = 5
      · have q5 : ((A.ns[i].kind : Int) == 5) = true := beq_iff_eq.2 (by omega)
        cases hEj : E.getD j false
        · have h2 := H1.out
          rw [if_pos ⟨h5, hEj⟩] at h2
          rw [hEj] at hbj
          have H2 := hide h2
          clear h2 H1 h5 hEj
          cases bad
          all_goals
            go_wp2
            go_roundg (A.ns[i].subs.length - (q + 1))
            case measure => have := HGQ.out; omega
            case rel => exact ⟨q + 1, _, _, X2, by omega, rfl, rfl, by go_num, rfl, hlenj, hB7, hK7', hO7, H2.out⟩
        · have h2 := H1.out
          rw [if_neg (by rintro ⟨_, h⟩; rw [hEj] at h; cases h)] at h2
          rw [hEj] at hbj
          have H2 := hide h2
          clear h2 H1 h5 hEj
          cases bad
          all_goals
            go_wp2
            go_roundg (A.ns[i].subs.length - (q + 1))
            case measure => have := HGQ.out; omega
            case rel => exact ⟨q + 1, _, _, X2, by omega, rfl, rfl, by go_num, rfl, hlenj, hB7, hK7', hO7, H2.out⟩
      · have q5 : ((A.ns[i].kind : Int) == 5) = false := beq_eq_false_iff_ne.2 (by omega)
        have h2 := H1.out
        rw [if_neg (fun h => h5 h.1)] at h2
        have H2 := hide h2
        clear h2 H1 h5
        cases bad
        all_goals
          go_wp2
          go_roundg (A.ns[i].subs.length - (q + 1))
          case measure => have := HGQ.out; omega
          case rel => exact ⟨q + 1, _, _, X2, by omega, rfl, rfl, by go_num, rfl, hlenj, hB7, hK7', hO7, H2.out⟩
    · have h1 := HRR.out
      rw [List.drop_of_length_le (by omega), bgL] at h1
      subst h1
      obtain ⟨p0, cp0, hv0⟩ := ownsRow_form hsu
      rw [hv0] at hz261
      clear hv0 HRR
      go_wp2
      go_ret
      exact ⟨rfl, hBz, hKz⟩

/-- begins, at every node. -/
theorem begins_said {s : ByteArray} {rs : List Rl} {A : St} {E : List Bool} (hW : WfR A.ns rs) (hN : ∀ N ∈ A.ns, N.kind = 3 → (fndI rs N.name).isSome = true) (hn : A.ns.length ≤ 5000) (hE : E.length = A.ns.length) : ∀ f, BgSaid s rs A E f
  | 0 => fun base b eb wb i nv rv U ahead L w hR hBe hBw hew hL hlt hif => absurd hif (by omega)
  | f + 1 => fun base b eb wb i nv rv U ahead L w hR hBe hBw hew hL hlt hif => by
    have IH := begins_said (s := s) hW hN hn hE f
    by_cases h3 : A.ns[i].kind = 3
    · cases ha : ahead
      · exact begins_behind IH hW hN hn hE base b eb wb i nv rv U false L w hR hBe hBw hew hL hlt hif h3 rfl
      · exact begins_front IH hW hN hn hE base b eb wb i nv rv U true L w hR hBe hBw hew hL hlt hif h3 rfl
    · by_cases h7 : A.ns[i].kind = 7
      · exact begins_rep7 IH hW hN hn hE base b eb wb i nv rv U ahead L w hR hBe hBw hew hL hlt hif h7
      · by_cases h8 : A.ns[i].kind = 8
        · exact begins_rep8 IH hW hN hn hE base b eb wb i nv rv U ahead L w hR hBe hBw hew hL hlt hif h8
        · exact begins_plain IH hW hN hn hE base b eb wb i nv rv U ahead L w hR hBe hBw hew hL hlt hif h3 h7 h8

end Go.Proofs.Ytagklnaaoclmhaa
