import Derived.Test.YtagklnaaoclmhaaCoeG
set_option linter.unusedSimpArgs false
set_option linter.unusedVariables false
namespace Go.Proofs.Ytagklnaaoclmhaa
open Go.ChangeShapes Go.WideShapes Go.ChangeAt Go.RowKit
open Go.ChangeMaps (open_string shut_string)

theorem info9 : (Try.prog.info? 9).map (fun i => (i.zero, i.size, i.bytes)) = some (some (.string ⟨#[]⟩), 1, 16) := by kernel_rfl
theorem mkS (W : World) (n : Nat) (hn : n ≤ 5000) : (Instr.makeSlice 29 (.int .i64 (n : Int)) (.int .i64 (n : Int))).run Try.prog W = .ok (.slice (some ⟨W.heap.size, 0, none⟩) n n) (W.alloc (.cells (List.replicate n (.string ⟨#[]⟩)).toArray 9)) := by
  obtain ⟨i0, hi0, hz0, hz1, hz2⟩ := info_parts info9
  have hr := run_make (P := Try.prog) W 29 9 i0 _ Try.underlying29 hi0 hz0 .i64 .i64 n n (by omega) (Int.le_refl _) (by rw [hz2]; omega) (by omega)
  rw [hr]
  simp only [Int.toNat_natCast, hz1, Nat.mul_one]
  have hz : (Value.string ⟨#[]⟩).cells = #[.string ⟨#[]⟩] := rfl
  have : madeCells (Value.string ⟨#[]⟩).cells n = (List.replicate n (.string ⟨#[]⟩)).toArray := by
    apply Array.ext'
    rw [hz, toList_madeCells_one]
  rw [this]

theorem eqlNil (W : World) : (binOp BinOp.eql 29 (.slice none 0 0) (.slice none 0 0)).run Try.prog W = .ok (.bool true) W := by
  have h : ∀ d : Nat, (Op.equalIn (d + 1) 29 (.slice none 0 0) (.slice none 0 0)).run Try.prog W = .ok true W := fun d => by
    simp [Op.equalIn, run_underlying Try.underlying29]
  have h1 := h 9999
  simp only [binOp, Op.equal]
  rw [show Op.maxDepth = 9999 + 1 from rfl]
  simp [h1]

def nmV (r : Rl) : Value := .string (ba r.name)
/-- The names that are told so far. -/
def nmsC (rs : List Rl) (k : Nat) : Array Value := ((rs.take k).map nmV ++ List.replicate (rs.length - k) (Value.string ⟨#[]⟩)).toArray
theorem nmsC_zero (rs : List Rl) : nmsC rs 0 = (List.replicate rs.length (Value.string ⟨#[]⟩)).toArray := by simp [nmsC]
theorem nmsC_all (rs : List Rl) : nmsC rs rs.length = (rs.map nmV).toArray := by simp [nmsC]
theorem nmsC_size (rs : List Rl) {k : Nat} (hk : k ≤ rs.length) : (nmsC rs k).size = rs.length := by
  simp [nmsC, List.length_take]; omega
theorem nmsC_step (rs : List Rl) {k : Nat} (hk : k < rs.length) : (nmsC rs k).setIfInBounds k (nmV rs[k]) = nmsC rs (k + 1) := by
  unfold nmsC
  have hl : ((rs.take k).map nmV).length = k := by simp; omega
  apply Array.ext'
  rw [Array.toList_setIfInBounds]
  show ((rs.take k).map nmV ++ List.replicate (rs.length - k) _).set k _ = (rs.take (k + 1)).map nmV ++ List.replicate (rs.length - (k + 1)) _
  rw [List.set_append_right _ _ (by omega), hl, Nat.sub_self, show rs.length - k = (rs.length - (k + 1)) + 1 by omega, List.replicate_succ, List.set_cons_zero, List.take_succ_eq_append_getElem hk, List.map_append, List.append_assoc]
  rfl
theorem nms_cell {w : World} {lb : Nat} {rs : List Rl} {k j : Nat} (h : w.heap[lb]? = some (.cells (nmsC rs k) 9)) (hk : k ≤ rs.length) (hj : j < rs.length) : ∃ v, w.cell? ⟨lb, j, none⟩ = some v := by
  have hs := nmsC_size rs hk
  refine ⟨(nmsC rs k)[j]'(by omega), ?_⟩
  simp only [World.cell?, h]
  exact Array.getElem?_eq_getElem _
theorem nms_name {w : World} {lb : Nat} {rs : List Rl} {j : Nat} (h : w.heap[lb]? = some (.cells (rs.map nmV).toArray 9)) (hj : j < rs.length) : w.cell? ⟨lb, j, none⟩ = some (.string (ba rs[j].name)) := by
  simp only [World.cell?, h]
  simp [hj, nmV]

/-- What Rules leaves. -/
structure RuOut (s : ByteArray) (w : World) (C : Int × Int) (e : Ending) (w' : World) : Prop where
  kept : Kept (fun _ => False) w w'
  bad : C.1 ≠ 0 → e = .returned (.tuple #[.slice none 0 0, .int .i64 C.1])
  ok : C.1 = 0 → ∃ lb, e = .returned (.tuple #[.slice (some ⟨lb, 0, none⟩) (read s).2.length (read s).2.length, .int .i64 C.1]) ∧ w'.heap[lb]? = some (.cells ((read s).2.map nmV).toArray 9)

/-- While Rules goes over the rules. -/
structure RuI (base gb : Nat) (rv : Value) (P : List Nat) (ρ : Nat → Int) (rs : List Rl) (ns : List Nd) (lb k : Nat) (w wx : World) : Prop where
  gm : Gm wx base gb rv P ρ rs ns
  row : wx.heap[lb]? = some (.cells (nmsC rs k) 9)
  kept : Kept (fun _ => False) w wx

set_option maxRecDepth 100000 in
set_option maxHeartbeats 3200000 in
theorem rules_code (s : ByteArray) (w : World) (hm : s.size ≤ maxLen) :
    Calls Try.prog 12 #[.string s] w fun e w' => RuOut s w (refChk s) e w' := by
  have hrd := read_code s w hm
  have hW := read_w s
  generalize refChk s = C at *
  obtain ⟨a, b⟩ := C
  go_enter Try.func12, Try.ntmps12
  go_wp2_with fail
  refine hrd.mono ?_
  intro e w1 hOut
  have hK1 := hOut.kept
  by_cases ha : a = 0
  · obtain ⟨gb, rfl, base, rv, P, ρ, hbase, hG⟩ := hOut.ok ha
    obtain ⟨rs, hrs⟩ : ∃ rs, rs = (read s).2 := ⟨_, rfl⟩
    obtain ⟨ns, hns⟩ : ∃ ns, ns = (read s).1.ns := ⟨_, rfl⟩
    rw [← hrs, ← hns] at hG hW
    have HRS := hide hrs
    have hl8 := hW.len
    have hmk := fun W => mkS W rs.length (by omega)
    obtain ⟨rp, rc, hrv⟩ := ownsRow_form hG.own
    obtain ⟨z, hz⟩ := hG.gram
    obtain ⟨g0, g1, gf0, gf1⟩ := cells2 hz
    have hgl := cell_lt g0
    have hgn : gb ≠ w1.heap.size := fun e => by subst e; exact Nat.lt_irrefl _ hgl
    have hI0 : RuI base gb rv P ρ rs ns w1.heap.size 0 w (w1.alloc (.cells (List.replicate rs.length (.string ⟨#[]⟩)).toArray 9)) := ⟨hG.same ((Kept.refl _ _).alloc _), by rw [nmsC_zero]; exact heap_alloc_new _ _, hK1.trans ((Kept.refl _ _).alloc _)⟩
    subst hrv
    subst ha
    clear hOut hrd hrs hns hz
    dsimp only
    go_wp2
    clear g0 g1 gf0 gf1
    go_loopg [30] rs.length (fun n v wx => ∃ k : Nat, Hid (k + n = rs.length) ∧ v = .int .i64 k ∧ RuI base gb (.slice rp rs.length rc) P ρ rs ns w1.heap.size k w wx)
    case atStart => exact ⟨0, Nat.zero_add _, rfl, hI0⟩
    case round =>
      obtain ⟨k, hkn, rfl, hI⟩ := hrel
      obtain ⟨m, hm'⟩ : ∃ m, m = gk := ⟨gk, rfl⟩
      subst hm'
      clear hI0
      by_cases hlt : k < rs.length
      · obtain ⟨rb, rcap, hrv, r0, r1, r2⟩ := rl_cells hI.gm.own hlt
        simp only [Value.slice.injEq] at hrv
        obtain ⟨hp, _, hcap⟩ := hrv
        subst hp hcap
        unfold ptrAt at r2
        obtain ⟨v0, hv0⟩ := nms_cell hI.row (by omega) hlt
        have hfz : wr.frozen? ⟨w1.heap.size, k, none⟩ = false := by simp [World.frozen?, hI.row]
        have hrl := objAt_lt (show objAt wr _ = _ from hI.row)
        have hrn : w1.heap.size ≠ wr.heap.size := by omega
        have hstep := nmsC_step rs hlt
        have hrow := hI.row
        have hgm := hI.gm
        have hkp := hI.kept
        have HN : Hid (∀ (o : Obj), RuI base gb (.slice (some ⟨rb, 0, none⟩) rs.length rc) P ρ rs ns w1.heap.size (k + 1) w ((wr.setCell ⟨w1.heap.size, k, none⟩ (.string (ba rs[k].name))).alloc o)) := by
          intro o
          have hK : Kept (· = w1.heap.size) wr (wr.setCell ⟨w1.heap.size, k, none⟩ (.string (ba rs[k].name))) := (Kept.refl (· = w1.heap.size) wr).setCell (p := ⟨w1.heap.size, k, none⟩) (fun _ => rfl) _
          have h2 : (wr.setCell ⟨w1.heap.size, k, none⟩ (.string (ba rs[k].name))).heap[w1.heap.size]? = some (.cells (nmsC rs (k + 1)) 9) := by
            rw [heap_set_at hrow, ← hstep]; rfl
          have hKa : Kept (fun _ => False) (wr.setCell ⟨w1.heap.size, k, none⟩ (.string (ba rs[k].name))) ((wr.setCell ⟨w1.heap.size, k, none⟩ (.string (ba rs[k].name))).alloc o) := (Kept.refl _ _).alloc _
          refine ⟨(hgm.kept hK (fun j c t e ho => ?_)).same hKa, ?_, (hkp.new hK hK1.size).trans hKa⟩
          · have e' : j = w1.heap.size := e
            rw [e', show objAt wr _ = _ from hrow] at ho
            simp at ho
            rw [← ho.2]; decide
          · rw [hKa.block _ (objAt_lt (show objAt _ _ = _ from h2)) (fun x => x)]; exact h2
        clear hI hstep hrow hgm hkp
        generalize rs[k].name = rn at *
        generalize rs[k].at_ = ra at *
        generalize P.getD rs[k].is 0 = pq at *
        go_wp2
        go_roundg (m - 1)
        case measure => have := hkn.out; omega
        case rel => exact ⟨k + 1, by have := hkn.out; unfold Hid; omega, by go_num, HN.out _⟩
      · have hkl : k = rs.length := by have := hkn.out; omega
        have hrow := hI.row
        rw [hkl, nmsC_all] at hrow
        have hkp := hI.kept
        clear hI hkn hkl
        go_wp2
        go_ret2
        exact ⟨hkp, fun h => absurd rfl h, fun _ => ⟨w1.heap.size, by rw [← HRS.out]; rfl, by rw [← HRS.out]; exact hrow⟩⟩
  · have he := hOut.bad ha
    subst he
    have hne : (a != 0) = true := by simpa using ha
    have HA := hide ha
    clear hOut hrd ha
    dsimp only
    go_wp2
    go_ret2
    exact ⟨hK1, fun _ => rfl, fun h => absurd h HA.out⟩

/-- What the law's rules leaves. -/
structure LrOut (s : ByteArray) (w : World) (C : Int × Int) (e : Ending) (w' : World) : Prop where
  kept : Kept (fun _ => False) w w'
  res : ∃ p n c, e = .returned (.tuple #[.slice p n c, .bool true]) ∧ (C.1 = 0 → n = (read s).2.length)

set_option maxRecDepth 100000 in
set_option maxHeartbeats 3200000 in
theorem lawRules_code (s : ByteArray) (w : World) (hm : s.size ≤ maxLen) :
    Calls Try.prog 7 #[.string s] w fun e w' => LrOut s w (refChk s) e w' := by
  have hru := rules_code s w hm
  have hrf := fun X => refCheck_any s X hm
  have hW := read_w s
  generalize refChk s = C at *
  obtain ⟨a, b⟩ := C
  go_enter Try.func7, Try.ntmps7
  go_wp2_with fail
  refine hru.mono ?_
  intro e w1 hOut
  have hK1 := hOut.kept
  by_cases ha : a = 0
  · obtain ⟨lb, rfl, hrow⟩ := hOut.ok ha
    subst ha
    dsimp only
    go_wp2_with fail
    refine (hrf w1).mono ?_
    intro e w2 hOut2
    have hK2 := hOut2.kept
    obtain ⟨rfl, nv, rv, U, hR⟩ := hOut2.ok rfl
    have hK := hK1.trans hK2
    have hrow2 : w2.heap[lb]? = some (.cells ((read s).2.map nmV).toArray 9) := by
      rw [hK2.block _ (objAt_lt (show objAt w1 _ = _ from hrow)) (fun x => x)]; exact hrow
    obtain ⟨rs, hrs⟩ : ∃ rs, rs = (read s).2 := ⟨_, rfl⟩
    have hru := hR.ru
    have hgis := hR.rg.gis
    rw [← hrs] at hrow2 hru hW ⊢
    have HRS := hide hrs
    have hl8 := hW.len
    obtain ⟨rp, rc, hrv⟩ := ownsRow_form hru
    subst hrv
    obtain ⟨c0, c1, c2, c3, c4, c5, c6⟩ := hgis.cells
    obtain ⟨gk0, hgk0⟩ : ∃ g, g = w1.heap.size := ⟨_, rfl⟩
    clear hOut hOut2 hrf hR hrs hgis hgk0
    dsimp only
    go_wp2
    go_loopg [9] rs.length (fun n v wx => ∃ k t : Nat, Hid (k + n = rs.length) ∧ v = .int .i64 k ∧ wx = w2.drewN t)
    case atStart => exact ⟨0, 0, Nat.zero_add _, rfl, rfl⟩
    case round =>
      obtain ⟨k, t, hkn, rfl, rfl⟩ := hrel
      obtain ⟨m, hm'⟩ : ∃ m, m = gk := ⟨gk, rfl⟩
      subst hm'
      by_cases hlt : k < rs.length
      · have hnm := nms_name hrow2 hlt
        obtain ⟨rb, rcap, hrv, r0, r1, r2⟩ := hru.cells hlt
        simp only [Value.slice.injEq] at hrv
        obtain ⟨hp, _, hcap⟩ := hrv
        subst hp hcap
        have hnm' : (w2.drewN t).cell? ⟨lb, k, none⟩ = _ := hnm
        have r0' : (w2.drewN t).cell? ⟨rb, k * 3, none⟩ = _ := r0
        have c1' : (w2.drewN t).cell? ⟨w1.heap.size, 1, none⟩ = _ := c1
        generalize rs[k].name = rn at *
        go_wp2
        go_quiet (fail)
        go_wp2
        go_roundg (m - 1)
        case measure => have := hkn.out; omega
        case rel => exact ⟨k + 1, t + nq, by have := hkn.out; unfold Hid; omega, by go_num, rfl⟩
      · go_wp2
        go_ret2
        exact ⟨hK.drewN _, _, _, _, rfl, fun _ => by rw [HRS.out]⟩
  · have he := hOut.bad ha
    subst he
    dsimp only
    go_wp2_with fail
    refine (hrf w1).mono ?_
    intro e w2 hOut2
    have hK2 := hOut2.kept
    have he2 := hOut2.bad ha
    subst he2
    have hne : (a != 0) = true := by simpa using ha
    have HA := hide ha
    have hnil := eqlNil
    clear hOut hOut2 hrf hru ha
    dsimp only
    go_wp2
    go_ret2
    exact ⟨hK1.trans hK2, none, 0, 0, rfl, fun h => absurd h HA.out⟩

theorem small_rules : (read smallB).2.length = 1 := by decide +kernel

set_option maxRecDepth 100000 in
set_option maxHeartbeats 3200000 in
theorem ruled_walk (a0 : ByteArray) (w0 : a0.size ≤ maxLen) (w : World) :
    Calls Try.prog 4 #[.string a0] w fun e w' => e = .returned (.bool true) ∧ Kept (fun _ => False) w w' := by
  have hsm := lawRules_code smallB w (by decide)
  rw [small_chk] at hsm
  have hrd := small_rules
  generalize hq : (read smallB).2.length = q at *
  subst hrd
  have hsm2 : Calls Try.prog 7 #[.string smallB] w fun e w' => ∃ p c, e = .returned (.tuple #[.slice p 1 c, .bool true]) ∧ Kept (fun _ => False) w w' := hsm.mono (fun e w' h => by
    obtain ⟨p, n, c, he, hn⟩ := h.res
    have := hn rfl
    rw [hq] at this
    subst this
    exact ⟨p, c, he, h.kept⟩)
  unfold smallB at hsm2
  have hck := fun X => lawRules_code a0 X w0
  clear hsm hq
  go_enter Try.func4, Try.ntmps4
  go_wp2_with fail
  refine hsm2.mono ?_
  rintro e w1 ⟨p, c, rfl, hK1⟩
  go_wp2_with fail
  refine (hck _).mono ?_
  intro e w2 hOut
  obtain ⟨p2, n2, c2, rfl, _⟩ := hOut.res
  have hK := hK1.trans hOut.kept
  clear hOut hck hsm2
  go_wp2
  go_ret
  exact ⟨rfl, hK⟩

set_option maxRecDepth 100000 in
theorem ruled_lifted (os : Os) (started : os.Started) (H : Type) (enc : TypeId × Value → H) :
    ReturnsInHanded {} Try.checked os 4 .any (Rows.ruledSpec.pre6 enc Try.prog Try.f4 Rows.ruledRow.domain false) (Rows.ruledSpec.post enc Try.prog Try.f4 false true false false) := by
  refine returnsInHanded_of_change (C := Try.checked) own started (by kernel_rfl) Try.func4
    (ChangeSpec.witness6 (enc := enc) (C := Try.checked) false ⟨#[], #[.string ByteArray.empty], []⟩ 8 (by kernel_rfl) (by kernel_rfl) (by kernel_rfl) (by kernel_rfl)) ?_
  intro W base args ds gs before hval0 hW hcnd _
  have hval : ∀ (j : Nat) t v, Try.f4.params[j]? = some t → args[j]? = some v → Value.okWide Try.prog W .any base t v := hval0
  have hW' := hW
  obtain ⟨p, q, hA0, hV, rfl, hfz, hnd⟩ := hW
  have hA : DataW.TrodAll enc Try.prog W 0 (fun _ => true) true Try.f4.params.toList args.toList ds p := hA0
  rw [Try.params4] at hA hval
  obtain ⟨v0, vs0, d0, ds0, p0, q0, hargs, rfl, rfl, h0, r0⟩ := trodAll_cons hA
  obtain ⟨rfl, rfl, rfl⟩ := trodAll_nil r0
  obtain rfl : args = #[v0] := by cases args; simp_all
  obtain ⟨rfl, rfl⟩ := trodVars_none hV
  obtain ⟨a0, rfl, rfl, rfl, w0⟩ := open_string Try.underlying9 (hval 0 9 v0 rfl rfl) h0
  clear hA0 hval0
  simp only [List.append_nil] at hW'
  refine (ruled_walk a0 w0 W).mono fun e W' ⟨he, hg⟩ => ?_
  subst he
  exact ⟨_, rfl, post_none hW' (fun _ _ _ => (trodAll_cons_mk (shut_bool Try.underlying4 _) trodAll_mk0)) (fun sp => (trodAll_cons_mk (shut_string Try.underlying9 w0) trodAll_mk0)) (fun _ => rfl) (kept_but hg) (ok_one (by kernel_rfl) rfl (okWide_bool_mk Try.underlying4 _))⟩

theorem ruled_over : Rows.ruledRow.holds Try.pinned (OpenSpec.ofChange Rows.ruledSpec) :=
  OpenClaim.holds_of_wide 4 Try.f4 rfl rfl rfl rfl rfl rfl rfl ⟨rfl, rfl, rfl, rfl, rfl⟩ rfl rfl rfl rfl rfl (by kernel_rfl) Try.func4 (by kernel_rfl)
    (of_decide_eq_true (by kernel_rfl)) (by unfold Func.isWrapper; first | (rw [if_pos (by decide +kernel)]; kernel_rfl) | (rw [if_neg (by decide +kernel)]; exact ⟨rfl, rfl⟩))
    (fun os started H enc _ => ruled_lifted os started H enc)

/-- P4: every Rules, behind one that must be. -/
theorem ruled_proved : Rows.RuledSaid :=
  ruled_over
#print axioms ruled_proved
end Go.Proofs.Ytagklnaaoclmhaa
