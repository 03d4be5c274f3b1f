import Derived.Test.YtagklnaaoclmhaaRefW
set_option linter.unusedSimpArgs false
set_option linter.unusedVariables false
namespace Go.Proofs.Ytagklnaaoclmhaa
open Go.RowKit

/-- The last row has turned. -/
theorem Lead.last {w w' : World} {lb n m : Nat} {mbs : List Nat} {M : List (List Bool)} {L L' : List Bool} (h : Lead w lb n (mbs ++ [m]) (M ++ [L])) (hk : Kept (· = m) w w') (hm : BoolsAt w' m L') (hL : L'.length = n) : Lead w' lb n (mbs ++ [m]) (M ++ [L']) := by
  have hMl : M.length = mbs.length := by have := h.len; simp at this; exact this
  have hlast : (mbs ++ [m]).getD mbs.length 0 = m := by rw [getD_app_r (Nat.le_refl _)]; simp
  have hrm := h.row mbs.length (by simp)
  rw [hlast] at hrm
  have hml := h.nlb hrm
  refine ⟨objAt_kept h.obj hk (fun e => hml e.symm), fun i hi => ?_, by simp [hMl], fun i hi => ?_, h.dup, h.le⟩
  · simp only [List.length_append, List.length_cons, List.length_nil] at hi
    by_cases hlt : i < mbs.length
    · have h1 := h.row i (by simp; omega)
      rw [getD_app_l hlt] at h1 ⊢
      rw [getD_app_l (by omega)] at h1 ⊢
      refine h1.kept hk (fun e => ?_)
      have := h.dup i mbs.length (by simp; omega) (by simp) (by rw [getD_app_l hlt, hlast]; exact e)
      omega
    · have : i = mbs.length := by omega
      subst this
      rw [hlast, getD_app_r (by omega), hMl, Nat.sub_self]
      exact hm
  · simp only [List.length_append, List.length_cons, List.length_nil] at hi
    by_cases hlt : i < mbs.length
    · have h1 := h.lenr i (by simp; omega)
      rw [getD_app_l (by omega)] at h1 ⊢
      exact h1
    · rw [getD_app_r (by omega), show i - M.length = 0 by omega]; exact hL

theorem leads0_snoc (rs : List Rl) (ns : List Nd) (i : Nat) : leads0 rs ns (i + 1) = leads0 rs ns i ++ [(bgX rs ns i).2] := by
  unfold leads0; rw [List.range_succ]; simp
theorem bads_zero (rs : List Rl) (ns : List Nd) : bads rs ns 0 = List.replicate rs.length false := by
  unfold bads
  apply List.ext_getElem
  · simp
  · intro i h1 h2; simp
theorem bads_set (rs : List Rl) (ns : List Nd) (i : Nat) (hi : i < rs.length) : (bads rs ns i).set i (bgX rs ns i).1 = bads rs ns (i + 1) := by
  unfold bads
  apply List.ext_getElem
  · simp
  · intro t h1 h2
    simp only [List.getElem_set, List.getElem_map, List.getElem_range]
    by_cases e : i = t
    · subst e; simp
    · rw [if_neg e]
      congr 1
      simp
      omega
theorem bads_len (rs : List Rl) (ns : List Nd) (i : Nat) : (bads rs ns i).length = rs.length := by simp [bads]
theorem bgX_len (rs : List Rl) (ns : List Nd) (i : Nat) : (bgX rs ns i).2.length = rs.length := bgF_len _ _ _ _ (by simp)

theorem endI_at (rs : List Rl) (ns : List Nd) (t : Nat) (ht : t < rs.length) : (∀ u, u < t → (at2 (leads rs ns) u u || (bads rs ns rs.length).getD u false) = false) → (at2 (leads rs ns) t t || (bads rs ns rs.length).getD t false) = true → endI rs ns = some t := by
  intro h1 h2
  unfold endI
  rw [List.find?_eq_some_iff_getElem]
  refine ⟨h2, t, by simpa using ht, by simp, fun j hj => ?_⟩
  simp only [List.getElem_range]
  rw [h1 j hj]; rfl
theorem endI_none (rs : List Rl) (ns : List Nd) : (∀ u, u < rs.length → (at2 (leads rs ns) u u || (bads rs ns rs.length).getD u false) = false) → endI rs ns = none := by
  intro h1
  unfold endI
  rw [List.find?_eq_none]
  intro u hu
  rw [h1 u (by simpa using hu)]; simp

/-- All that the second part of endless goes by. -/
structure Sq (w0 w : World) (lb bb n : Nat) (mbs : List Nat) (M : List (List Bool)) (B : List Bool) : Prop where
  lead : Lead w lb n mbs M
  bad : BoolsAt w bb B
  full : mbs.length = n
  nb : ∀ i, i < mbs.length → mbs.getD i 0 ≠ bb
  kept : Kept (fun _ => False) w0 w
  new : ∀ i, i < mbs.length → w0.heap.size ≤ mbs.getD i 0
theorem Sq.set {w0 w : World} {lb bb n i j : Nat} {mbs : List Nat} {M : List (List Bool)} {B : List Bool} (h : Sq w0 w lb bb n mbs M B) (hi : i < mbs.length) (v : Bool) : Sq w0 (w.setCell ⟨mbs.getD i 0, j, none⟩ (.bool v)) lb bb n mbs (M.set i ((M.getD i []).set j v)) B :=
  ⟨h.lead.set hi v, h.bad.kept ((Kept.refl (· = mbs.getD i 0) w).setCell (fun _ => rfl) _) (fun e => h.nb i hi e.symm), h.full, h.nb, h.kept.setCell (fun e => by have := h.new i hi; exact absurd e (by simp only; omega)) _, h.new⟩
theorem Sq.drew {w0 w : World} {lb bb n : Nat} {mbs : List Nat} {M : List (List Bool)} {B : List Bool} (h : Sq w0 w lb bb n mbs M B) : Sq w0 w.drew lb bb n mbs M B :=
  ⟨⟨h.lead.obj, h.lead.row, h.lead.len, h.lead.lenr, h.lead.dup, h.lead.le⟩, h.bad, h.full, h.nb, h.kept.drew, h.new⟩

set_option maxRecDepth 100000 in
set_option maxHeartbeats 12800000 in
/-- endless. -/
theorem endless_any (b base : Nat) (s : ByteArray) (nv rv : Value) (U : Nat → Prop) (A : St) (rs : List Rl) (w : World) (hR : Rdy w base b s nv rv U A rs) (hW : WfR A.ns rs)
    (hN : ∀ N ∈ A.ns, N.kind = 3 → (fndI rs N.name).isSome = true) (hn : A.ns.length ≤ 5000) :
    Calls Try.prog 11 #[.pointer (some ⟨b, 0, none⟩)] w fun e w' => e = .returned (.int .i64 (endless rs A.ns)) ∧ Kept (fun _ => False) w w' := by
  have hl8 := hW.len
  obtain ⟨p0, cap0, hrv⟩ := ownsRow_form (show w.ownsRow base 44 3 rv rs.length (rs.flatMap rlCells) from hR.ru)
  have HE : Hid (∀ i, endI rs A.ns = some i → endless rs A.ns = ((rs.map Rl.at_).getD i 0 : Nat)) := fun i h => by unfold endless; rw [h]
  have HE0 : Hid (endI rs A.ns = none → endless rs A.ns = -1) := fun h => by unfold endless; rw [h]
  go_enter Try.func11, Try.ntmps11
  go_wp2_with fail
  refine (empty_any b base s nv rv U A rs w hR hW hN hn).mono ?_
  rintro e w1 ⟨rfl, hBe, hK1⟩
  obtain ⟨eb, heb⟩ : ∃ eb, eb = w.heap.size := ⟨_, rfl⟩
  rw [← heb] at hBe ⊢
  have Heb := hide heb
  clear heb
  have hR1 := hR.kept hK1 (fun _ x => x.elim)
  obtain ⟨c0, c1, c2, c3, c4, c5, c6⟩ := hR1.rg.gis.cells
  rw [hrv] at c1
  have hmkL := mkL w1 rs.length (by omega)
  have hmkB := mkB (w1.alloc (.cells (Array.replicate rs.length (.slice none 0 0)) 60)) rs.length (by omega)
  have hsz2 : (w1.alloc (.cells (Array.replicate rs.length (.slice none 0 0)) 60)).heap.size = w1.heap.size + 1 := by simp
  rw [hsz2] at hmkB
  have heb1 := objAt_lt hBe
  go_wp2_with fail
  have hL0 := (new_lead w1 rs.length)
  have hB0 := new_bools (w1.alloc (.cells (Array.replicate rs.length (.slice none 0 0)) 60)) rs.length
  rw [hsz2] at hB0
  have hK2 : Kept (fun _ => False) w1 ((w1.alloc (.cells (Array.replicate rs.length (.slice none 0 0)) 60)).alloc (.cells (Array.replicate rs.length (.bool false)) 4)) := ((Kept.refl _ w1).alloc _).alloc _
  have hL1 := hL0.kept ((Kept.refl (fun _ => False) _).alloc (.cells (Array.replicate rs.length (.bool false)) 4)) id (fun _ _ => id)
  obtain ⟨lb, hlb⟩ : ∃ lb, lb = w1.heap.size := ⟨_, rfl⟩
  obtain ⟨bb, hbb⟩ : ∃ bb, bb = w1.heap.size + 1 := ⟨_, rfl⟩
  rw [← hlb] at hL1
  rw [← hbb] at hB0
  rw [← hbb, ← hlb]
  have Hlb := hide hlb
  have Hbb := hide hbb
  clear hlb hbb hmkL hmkB hL0 hsz2
  generalize hw2 : ((w1.alloc (.cells (Array.replicate rs.length (.slice none 0 0)) 60)).alloc (.cells (Array.replicate rs.length (.bool false)) 4)) = w2 at *
  clear hw2
  have hlenE : (empty rs A.ns).length = A.ns.length := emp_len rs A.ns _
  have hK2' := hK2
  go_loopg [7] rs.length (fun gn v wx => ∃ (i : Nat) (mbs : List Nat), i ≤ rs.length ∧ gn = rs.length - i ∧ v = .int .i64 i ∧ mbs.length = i ∧ Lead wx lb rs.length mbs (leads0 rs A.ns i) ∧ BoolsAt wx bb (bads rs A.ns i) ∧ (∀ t, t < mbs.length → mbs.getD t 0 ≠ bb) ∧ Kept (fun _ => False) w1 wx ∧ (∀ t, t < mbs.length → w1.heap.size ≤ mbs.getD t 0))
  case atStart => exact ⟨0, [], by omega, rfl, rfl, rfl, hL1, by rw [bads_zero]; exact hB0, fun t h => absurd h (by simp), hK2, fun t h => absurd h (by simp)⟩
  case round =>
    obtain ⟨i, mbs, hi, hgi, rfl, hml, hLx, hBx, hnb, hKx, hnew⟩ := hrel
    obtain ⟨wx, hwx⟩ : ∃ m, m = wr := ⟨wr, rfl⟩
    subst hwx
    have HGI := hide hgi
    clear hgi
    have hRx := hR1.kept hKx (fun _ x => x.elim)
    have hBex : BoolsAt wx eb (empty rs A.ns) := hBe.kept hKx id
    by_cases hilt : i < rs.length
    · have hmk := mkB wx rs.length (by omega)
      obtain ⟨⟨u, hu⟩, hfu⟩ := hLx.spare hilt
      have hlbx := objAt_lt hLx.obj
      have hcl : ∀ o, (wx.alloc (.cells (Array.replicate rs.length (.bool false)) 4)).cell? ⟨lb, o, none⟩ = wx.cell? ⟨lb, o, none⟩ := fun o => World.cell?_alloc_lt _ _ _ hlbx
      have hfl : ∀ o, (wx.alloc (.cells (Array.replicate rs.length (.bool false)) 4)).frozen? ⟨lb, o, none⟩ = wx.frozen? ⟨lb, o, none⟩ := fun o => World.frozen?_alloc_past _ _ _ hlbx
      have hilt' : (i : Int) < (rs.length : Int) := by omega
      have hi0' : (0 : Int) ≤ (i : Int) := by omega
      obtain ⟨mb, hmb⟩ : ∃ mb, mb = wx.heap.size := ⟨_, rfl⟩
      have hbbx := objAt_lt hBx
      have hw1x := hKx.size
      have HML := hide hml
      have h3 : ∀ W, (W = (wx.alloc (.cells (Array.replicate rs.length (.bool false)) 4)).setCell ⟨lb, i, none⟩ (.slice (some ⟨mb, 0, none⟩) rs.length rs.length) ∨ W = (wx.setCell ⟨lb, i, none⟩ (.slice (some ⟨mb, 0, none⟩) rs.length rs.length)).alloc (.cells (Array.replicate rs.length (.bool false)) 4)) →
          Lead W lb rs.length (mbs ++ [mb]) (leads0 rs A.ns i ++ [List.replicate rs.length false]) ∧ BoolsAt W bb (bads rs A.ns i) ∧ BoolsAt W mb (List.replicate rs.length false) ∧ Kept (fun _ => False) w1 W := by
        intro W hWW
        have hlbw : w1.heap.size ≤ lb := by have := Hlb.out; omega
        have hnlb := hLx.nlb hBx
        have e1 : W = (wx.alloc (.cells (Array.replicate rs.length (.bool false)) 4)).setCell ⟨lb, i, none⟩ (.slice (some ⟨mb, 0, none⟩) rs.length rs.length) := by
          rcases hWW with h | h
          · exact h
          · rw [h]; exact (World.setCell_alloc_past (w := wx) _ _ _ _ hlbx).symm
        subst e1
        have hK9 : Kept (fun _ => False) wx (wx.alloc (.cells (Array.replicate rs.length (.bool false)) 4)) := (Kept.refl _ wx).alloc _
        have hL9 := hLx.kept hK9 id (fun _ _ => id)
        have hB9 : BoolsAt (wx.alloc (.cells (Array.replicate rs.length (.bool false)) 4)) mb (List.replicate rs.length false) := by rw [hmb]; exact new_bools wx _
        have hp := hL9.push (by rw [HML.out]; exact hilt) hB9 (by simp) (fun t ht e => by have := objAt_lt (hLx.row t ht); omega)
        rw [HML.out] at hp
        have hK10 : Kept (· = lb) (wx.alloc (.cells (Array.replicate rs.length (.bool false)) 4)) ((wx.alloc (.cells (Array.replicate rs.length (.bool false)) 4)).setCell ⟨lb, i, none⟩ (.slice (some ⟨mb, 0, none⟩) rs.length rs.length)) := (Kept.refl (· = lb) _).setCell (fun _ => rfl) _
        exact ⟨hp, (hBx.kept hK9 id).kept hK10 hnlb, hB9.kept hK10 (by omega), (hKx.alloc _).setCell (fun h => absurd h (by simp only; omega)) _⟩
      rw [← hmb] at hmk
      have Hmb := hide hmb
      have H3 := hide h3
      clear hmb h3 hml
      go_wp2_with fail
      have hfacts := H3.out ((wx.setCell ⟨lb, i, none⟩ (.slice (some ⟨mb, 0, none⟩) rs.length rs.length)).alloc (.cells (Array.replicate rs.length (.bool false)) 4)) (Or.inr rfl)
      generalize hW3 : (wx.setCell ⟨lb, i, none⟩ (.slice (some ⟨mb, 0, none⟩) rs.length rs.length)).alloc (.cells (Array.replicate rs.length (.bool false)) 4) = w3 at *
      obtain ⟨hL3, hB3, hM3, hK3⟩ := hfacts
      have hR3 := hR1.kept hK3 (fun _ x => x.elim)
      have hBe3 : BoolsAt w3 eb (empty rs A.ns) := hBe.kept hK3 id
      obtain ⟨d0, d1, d2, d3, d4, d5, d6⟩ := hR3.rg.gis.cells
      obtain ⟨rb, rcap, hrv2, r0, r1, r2⟩ := hR3.ru.cells hilt
      rw [hrv2] at d1
      have his := hW.is rs[i] (List.getElem_mem _)
      have hlc : w3.cell? ⟨lb, i, none⟩ = some (.slice (some ⟨mb, 0, none⟩) rs.length rs.length) := by
        have h9 := hL3.cell (i := i) (by simp [HML.out])
        rw [getD_app_r (by rw [HML.out]; exact Nat.le_refl _), HML.out, Nat.sub_self] at h9
        exact h9
      have hebm : eb ≠ mb := by have := Hmb.out; omega
      have hmbb : mb ≠ bb := by have := Hmb.out; omega
      have hbg := begins_said (s := s) hW hN hn hlenE A.ns.length base b eb mb rs[i].is nv rv U true (List.replicate rs.length false) w3.drew (hR3.same 1) hBe3 hM3 hebm (by simp) his his
      have HX : Hid (bgX rs A.ns i = bgF rs A.ns (empty rs A.ns) A.ns.length rs[i].is true (List.replicate rs.length false)) := by unfold Hid bgX; rw [map_getD _ _ _ _ hilt]
      rw [← HX.out] at hbg
      have HBG := hide hbg
      have hxl := bgX_len rs A.ns i
      have hsnoc := leads0_snoc rs A.ns i
      have hbset := bads_set rs A.ns i hilt
      have HSN := hide hsnoc
      have HBS := hide hbset
      have hlenB := bads_len rs A.ns i
      generalize bgX rs A.ns i = Y at *
      obtain ⟨yb, Y2⟩ := Y
      dsimp only at *
      clear hbg hsnoc hbset hW3 hu hfu hcl hfl hmk c0 c1 c2 c3 c4 c5 c6 H3
      go_region_with (first | (go_at_call 22; refine HBG.out.mono ?_; rintro e w4 ⟨rfl, hB4, hK4⟩; have hbb4 : BoolsAt w4 bb (bads rs A.ns i) := BoolsAt.kept (w := w3.drew) hB3 hK4 (Ne.symm hmbb); have hbc4 := hbb4.cell (i := i) (by omega); have hbf4 := hbb4.frozen i))
      all_goals
        go_wp2
        go_roundg (rs.length - (i + 1))
        case measure => have := HGI.out; omega
        case rel =>
          have hK4w : Kept (· = mb) w3 w4 := ((Kept.refl (· = mb) w3).drew).trans hK4
          have hL4 := hL3.last hK4w hB4 hxl
          have hK5 : Kept (· = bb) w4 (w4.setCell ⟨bb, i, none⟩ (.bool yb)) := (Kept.refl (· = bb) w4).setCell (fun _ => rfl) _
          have hnb5 : ∀ t, t < (mbs ++ [mb]).length → (mbs ++ [mb]).getD t 0 ≠ bb := fun t ht => by
            by_cases htl : t < mbs.length
            · rw [getD_app_l htl]; exact hnb t htl
            · rw [getD_app_r (by omega), show t - mbs.length = 0 by simp at ht; omega]; exact hmbb
          have hL5 := hL4.kept hK5 (fun e => hL4.nlb hbb4 e.symm) (fun t ht => hnb5 t ht)
          have hbbw : w1.heap.size ≤ bb := by have := Hbb.out; omega
          have hmbw : w1.heap.size ≤ mb := by have := Hmb.out; omega
          refine ⟨i + 1, mbs ++ [mb], by omega, rfl, by go_num, by simp [HML.out], by rw [HSN.out]; exact hL5, by rw [← HBS.out]; exact hbb4.set i yb, hnb5, ?_, ?_⟩
          · exact (hK3.then hK4w (fun t ht e => by omega)).then hK5 (fun t ht e => by omega)
          · intro t ht
            by_cases htl : t < mbs.length
            · rw [getD_app_l htl]; exact hnew t htl
            · rw [getD_app_r (by omega), show t - mbs.length = 0 by simp at ht; omega]; exact hmbw
    · have hie : i = rs.length := by omega
      subst hie
      have hQ0 : Sq w1 wx lb bb rs.length mbs (leads0 rs A.ns rs.length) (bads rs A.ns rs.length) := ⟨hLx, hBx, hml, hnb, hKx, hnew⟩
      clear hLx hBx hnb hKx hnew hRx hBex
      go_wp2_with fail
      go_loopg [8] rs.length (fun gn v wy => ∃ k : Nat, k ≤ rs.length ∧ gn = rs.length - k ∧ v = .int .i64 k ∧ Sq w1 wy lb bb rs.length mbs (wk rs.length (leads0 rs A.ns rs.length) k) (bads rs A.ns rs.length))
      case atStart => exact ⟨0, by omega, rfl, rfl, hQ0⟩
      case round =>
        obtain ⟨k, hk, hgk, rfl, hQk⟩ := hrel
        have HGK := hide hgk
        clear hgk
        obtain ⟨mk, hmk⟩ : ∃ m, m = gk := ⟨gk, rfl⟩
        subst hmk
        by_cases hklt : k < rs.length
        · have hklt' : (k : Int) < (rs.length : Int) := by omega
          go_wp2_with fail
          go_loopg [9] rs.length (fun gn v wy => ∃ i : Nat, i ≤ rs.length ∧ gn = rs.length - i ∧ v = .int .i64 i ∧ Sq w1 wy lb bb rs.length mbs (wi rs.length (wk rs.length (leads0 rs A.ns rs.length) k) k i) (bads rs A.ns rs.length))
          case atStart => exact ⟨0, by omega, rfl, rfl, hQk⟩
          case round =>
            obtain ⟨i, hi, hgi, rfl, hQi⟩ := hrel
            have HGI2 := hide hgi
            clear hgi
            obtain ⟨mi, hmi⟩ : ∃ m, m = gk := ⟨gk, rfl⟩
            subst hmi
            by_cases hilt : i < rs.length
            · have hilt' : (i : Int) < (rs.length : Int) := by omega
              go_wp2_with fail
              go_loopg [10] rs.length (fun gn v wy => ∃ j : Nat, j ≤ rs.length ∧ gn = rs.length - j ∧ v = .int .i64 j ∧ Sq w1 wy lb bb rs.length mbs (wj (wi rs.length (wk rs.length (leads0 rs A.ns rs.length) k) k i) k i j) (bads rs A.ns rs.length))
              case atStart => exact ⟨0, by omega, rfl, rfl, hQi⟩
              case round =>
                obtain ⟨j, hj, hgj, rfl, hQz⟩ := hrel
                have HGJ := hide hgj
                clear hgj
                by_cases hjlt : j < rs.length
                · have hjlt' : (j : Int) < (rs.length : Int) := by omega
                  have hi0 : (0 : Int) ≤ (i : Int) := by omega
                  have hj0 : (0 : Int) ≤ (j : Int) := by omega
                  have hk0 : (0 : Int) ≤ (k : Int) := by omega
                  have him : i < mbs.length := by omega
                  have hkm : k < mbs.length := by omega
                  generalize hMM : wj (wi rs.length (wk rs.length (leads0 rs A.ns rs.length) k) k i) k i j = M at *
                  have HMM := hide hMM
                  clear hMM
                  have e1 := hQz.lead.cell him
                  have e2 := hQz.lead.cell hkm
                  have l1 := hQz.lead.lenr i him
                  have l2 := hQz.lead.lenr k hkm
                  have f1 := (hQz.lead.row i him).cell (i := j) (by omega)
                  have f2 := (hQz.lead.row i him).cell (i := k) (by omega)
                  have f3 := (hQz.lead.row k hkm).cell (i := j) (by omega)
                  have z1 := (hQz.lead.row i him).frozen j
                  have HA : Hid (at2 M i j = (M.getD i []).getD j false ∧ at2 M i k = (M.getD i []).getD k false ∧ at2 M k j = (M.getD k []).getD j false) := ⟨rfl, rfl, rfl⟩
                  generalize (M.getD i []).getD j false = a at *
                  generalize (M.getD i []).getD k false = bq at *
                  generalize (M.getD k []).getD j false = cq at *
                  have HU : Hid ((at2 M i j || (at2 M i k && at2 M k j)) = (a || (bq && cq))) := by
                    obtain ⟨g1, g2, g3⟩ := HA.out
                    unfold Hid; rw [g1, g2, g3]
                  clear HA l1 l2
                  generalize hm1 : mbs.getD i 0 = m1 at *
                  generalize mbs.getD k 0 = m2 at *
                  have Hm1 := hide hm1
                  clear hm1
                  clear hQ0 hQk hQi
                  cases a
                  · cases bq
                    · have HV : Hid (wj (wi rs.length (wk rs.length (leads0 rs A.ns rs.length) k) k i) k i (j + 1) = M.set i ((M.getD i []).set j false)) := by
                        unfold Hid; rw [wj, HMM.out, upd, HU.out]; rfl
                      have hS := (hQz.set (j := j) him false).drew
                      rw [Hm1.out] at hS
                      have HS := hide hS
                      clear hS HU HMM
                      go_wp2_with fail
                      go_region
                      all_goals
                        go_wp2
                        go_roundg (rs.length - (j + 1))
                        case measure => have := HGJ.out; omega
                        case rel => exact ⟨j + 1, by omega, rfl, by go_num, by rw [HV.out]; exact HS.out⟩
                    · cases cq
                      · have HV : Hid (wj (wi rs.length (wk rs.length (leads0 rs A.ns rs.length) k) k i) k i (j + 1) = M.set i ((M.getD i []).set j false)) := by
                          unfold Hid; rw [wj, HMM.out, upd, HU.out]; rfl
                        have hS := (hQz.set (j := j) him false).drew
                        rw [Hm1.out] at hS
                        have HS := hide hS
                        clear hS HU HMM
                        go_wp2_with fail
                        go_region
                        all_goals
                          go_wp2
                          go_roundg (rs.length - (j + 1))
                          case measure => have := HGJ.out; omega
                          case rel => exact ⟨j + 1, by omega, rfl, by go_num, by rw [HV.out]; exact HS.out⟩
                      · have HV : Hid (wj (wi rs.length (wk rs.length (leads0 rs A.ns rs.length) k) k i) k i (j + 1) = M.set i ((M.getD i []).set j true)) := by
                          unfold Hid; rw [wj, HMM.out, upd, HU.out]; rfl
                        have hS := (hQz.set (j := j) him true).drew
                        rw [Hm1.out] at hS
                        have HS := hide hS
                        clear hS HU HMM
                        go_wp2_with fail
                        go_region
                        all_goals
                          go_wp2
                          go_roundg (rs.length - (j + 1))
                          case measure => have := HGJ.out; omega
                          case rel => exact ⟨j + 1, by omega, rfl, by go_num, by rw [HV.out]; exact HS.out⟩
                  · have HV : Hid (wj (wi rs.length (wk rs.length (leads0 rs A.ns rs.length) k) k i) k i (j + 1) = M.set i ((M.getD i []).set j true)) := by
                      unfold Hid; rw [wj, HMM.out, upd, HU.out]; rfl
                    have hS := (hQz.set (j := j) him true).drew
                    rw [Hm1.out] at hS
                    have HS := hide hS
                    clear hS HU HMM
                    go_wp2_with fail
                    go_region
                    all_goals
                      go_wp2
                      go_roundg (rs.length - (j + 1))
                      case measure => have := HGJ.out; omega
                      case rel => exact ⟨j + 1, by omega, rfl, by go_num, by rw [HV.out]; exact HS.out⟩
                · have hje : j = rs.length := by omega
                  subst hje
                  go_wp2
                  go_roundg (rs.length - (i + 1))
                  case measure => have := HGI2.out; omega
                  case rel => exact ⟨i + 1, by omega, rfl, by go_num, hQz⟩
            · have hie : i = rs.length := by omega
              subst hie
              go_wp2
              go_roundg (rs.length - (k + 1))
              case measure => have := HGK.out; omega
              case rel => exact ⟨k + 1, by omega, rfl, by go_num, hQi⟩
        · have hke : k = rs.length := by omega
          subst hke
          clear hQ0
          go_wp2_with fail
          obtain ⟨wq, hwq⟩ : ∃ m, m = wr := ⟨wr, rfl⟩
          have hRq := hR1.kept hQk.kept (fun _ x => x.elim)
          have HLD : Hid (wk rs.length (leads0 rs A.ns rs.length) rs.length = leads rs A.ns) := rfl
          rw [HLD.out] at hQk
          go_loop [11] (fun v => ∃ t : Nat, t ≤ rs.length ∧ v = .int .i64 t ∧ Hid (∀ u, u < t → (at2 (leads rs A.ns) u u || (bads rs A.ns rs.length).getD u false) = false)) (fun v => rs.length - (intOf v).toNat)
          case atStart => exact ⟨0, by omega, rfl, fun u h => absurd h (by omega)⟩
          case round =>
            obtain ⟨t, ht, rfl, HT⟩ := hrel
            by_cases htlt : t < rs.length
            · have htm : t < mbs.length := by rw [hQk.full]; exact htlt
              have e1 := hQk.lead.cell htm
              have l1 := hQk.lead.lenr t htm
              have f1 := (hQk.lead.row t htm).cell (i := t) (by omega)
              have f2 := hQk.bad.cell (i := t) (by rw [bads_len]; exact htlt)
              have HA : Hid (at2 (leads rs A.ns) t t = ((leads rs A.ns).getD t []).getD t false) := rfl
              have hEI := endI_at rs A.ns t htlt
              rw [HA.out] at hEI
              have HTT : Hid ((((leads rs A.ns).getD t []).getD t false || (bads rs A.ns rs.length).getD t false) = false → ∀ u, u < t + 1 → (at2 (leads rs A.ns) u u || (bads rs A.ns rs.length).getD u false) = false) := fun h u hu => by
                rcases Nat.lt_or_eq_of_le (Nat.lt_succ_iff.1 hu) with h1 | h1
                · exact HT.out u h1
                · subst h1; exact h
              have HEI := hide hEI
              clear hEI l1
              obtain ⟨rb, rcap, hrv2, r0, r1, r2⟩ := hRq.ru.cells htlt
              obtain ⟨d0, d1, d2, d3, d4, d5, d6⟩ := hRq.rg.gis.cells
              rw [hrv2] at d1
              have HAT : Hid ((rs.map Rl.at_).getD t 0 = rs[t].at_) := map_getD _ _ _ _ htlt
              generalize ((leads rs A.ns).getD t []).getD t false = a at *
              generalize (bads rs A.ns rs.length).getD t false = bq at *
              generalize mbs.getD t 0 = mt at *
              cases a
              · cases bq
                · have HT2 := hide (HTT.out rfl)
                  clear HT HTT HEI
                  go_wp2
                  go_round
                  case rel => exact ⟨t + 1, by omega, by go_num, HT2.out⟩
                  case measure => simp [intOf]; omega
                · have HF := hide (HE.out t (HEI.out HT.out rfl))
                  clear HT HTT HEI
                  go_wp2
                  go_ret
                  exact ⟨by rw [HF.out, HAT.out]; rfl, hK1.then hQk.kept (fun _ _ h => h)⟩
              · have HF := hide (HE.out t (HEI.out HT.out rfl))
                clear HT HTT HEI
                go_wp2
                go_ret
                exact ⟨by rw [HF.out, HAT.out]; rfl, hK1.then hQk.kept (fun _ _ h => h)⟩
            · have HF := hide (HE0.out (endI_none rs A.ns (fun u hu => HT.out u (by omega))))
              clear HT
              go_wp2
              go_ret
              exact ⟨by rw [HF.out]; rfl, hK1.then hQk.kept (fun _ _ h => h)⟩

end Go.Proofs.Ytagklnaaoclmhaa
