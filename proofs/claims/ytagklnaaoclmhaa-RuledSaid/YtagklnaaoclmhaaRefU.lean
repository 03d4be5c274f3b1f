import Derived.Test.YtagklnaaoclmhaaPlnA
import Derived.Deep.RegionHeld3
set_option linter.unusedSimpArgs false
set_option linter.unusedVariables false
namespace Go.Proofs.Ytagklnaaoclmhaa
open Go.RowKit
/-- A node's cells, as many as they must be: a word that simp does not open. -/
def Sz (c : Array Value) : Prop := c.size = 262
theorem store59Of_sz (W : World) (c c' : Array Value) (k : Nat) (h : Sz c) (h' : Sz c') (h1 : ones c' = true) : store59Of Try.prog (some (.cells c 59 (0, 0))) k c' W = .ok .skip (W.setRow k c') := store59Of_some W c c' k h h' h1
attribute [local go_sem ↓] exec_load59 exec_alloc59 exec_store59 exec_build59 exec_buildSlice36
attribute [local go_sem] load59At_ptr load59Of_some store59At_ptr store59Of_sz build59_nil build59_kind build59_term build59_name build59_subs buildSlice36_some objAt_drew objAt_drewN objAt_new objAt_old

theorem evN_0 {rs : List Rl} {N : Nd} {L : List Bool} {o : Bool} (h : N.kind = 0) : evN rs N L o = N.text.isEmpty := by simp [evN, h]
theorem evN_t {rs : List Rl} {N : Nd} {L : List Bool} {o : Bool} (h : N.kind = 6 ∨ N.kind = 7 ∨ N.kind = 9 ∨ N.kind = 10) : evN rs N L o = true := by
  unfold evN; rw [if_neg (by omega), if_neg (by omega), if_pos h]
theorem evN_3 {rs : List Rl} {N : Nd} {L : List Bool} {o : Bool} (h : N.kind = 3) : evN rs N L o = L.getD ((rs.map Rl.is).getD ((fndI rs N.name).getD 0) 0) false := by simp [evN, h]
theorem evN_8 {rs : List Rl} {N : Nd} {L : List Bool} {o : Bool} (h : N.kind = 8) : evN rs N L o = L.getD (N.subs.getD 0 0) false := by simp [evN, h]
theorem evN_4 {rs : List Rl} {N : Nd} {L : List Bool} {o : Bool} (h : N.kind = 4) : evN rs N L o = (o || N.subs.any (fun j => L.getD j false)) := by simp [evN, h]
theorem evN_5 {rs : List Rl} {N : Nd} {L : List Bool} {o : Bool} (h : N.kind = 5) : evN rs N L o = N.subs.all (fun j => L.getD j false) := by simp [evN, h]
theorem evN_1 {rs : List Rl} {N : Nd} {L : List Bool} {o : Bool} (h : N.kind = 1 ∨ N.kind = 2) : evN rs N L o = o := by
  unfold evN; rw [if_neg (by omega), if_neg (by omega), if_neg (by omega), if_neg (by omega), if_neg (by omega), if_neg (by omega)]
theorem arr_get {c : Array Value} {i : Nat} {v : Value} (h : c[i]? = some v) {hi : i < c.size} : c[i] = v := by
  rw [Array.getElem?_eq_getElem hi] at h; exact Option.some.inj h
set_option maxRecDepth 100000 in
set_option maxHeartbeats 12800000 in
/-- Empty. -/
theorem empty_any (b base : Nat) (s : ByteArray) (nv rv : Value) (U : Nat → Prop) (A : St) (rs : List Rl) (w : World) (hR : Rdy w base b s nv rv U A rs) (hW : WfR A.ns rs)
    (hN : ∀ N ∈ A.ns, N.kind = 3 → (fndI rs N.name).isSome = true) (hn : A.ns.length ≤ 5000) :
    Calls Try.prog 21 #[.pointer (some ⟨b, 0, none⟩)] w fun e w' => e = .returned (.slice (some ⟨w.heap.size, 0, none⟩) A.ns.length A.ns.length) ∧ BoolsAt w' w.heap.size (empty rs A.ns) ∧ Kept (fun _ => False) w w' := by
  obtain ⟨i0, hi0, hz0, hz1, hz2⟩ := info_parts info4
  have hnf : ∃ p' cap', nv = .slice p' A.ns.length cap' := by obtain ⟨cs, _, ho, _⟩ := hR.rg.nodes; exact ownsRow_form ho
  obtain ⟨p', cap', hnv⟩ := hnf
  obtain ⟨c0, c1, c2, c3, c4, c5, c6⟩ := hR.rg.gis.cells
  rw [hnv] at c0
  have hl8 := hW.len
  have HEM : Hid (empty rs A.ns = emp rs A.ns (A.ns.length + 1)) := rfl
  have hbase := hR.rg.hb
  go_enter Try.func21, Try.ntmps21
  have hmk := mkB w A.ns.length hn
  go_wp2_with fail
  have hb0 : BoolsAt (w.alloc (.cells (Array.replicate A.ns.length (.bool false)) 4)) w.heap.size (List.replicate A.ns.length false) := new_bools w _
  have hK1 : Kept (fun _ => False) w (w.alloc (.cells (Array.replicate A.ns.length (.bool false)) 4)) := (Kept.refl _ w).alloc _
  have hR1 := hR.alloc (.cells (Array.replicate A.ns.length (.bool false)) 4)
  clear hmk
  generalize hw1 : w.alloc (.cells (Array.replicate A.ns.length (.bool false)) 4) = w1 at *
  clear hw1
  obtain ⟨eb, heb⟩ : ∃ eb, eb = w.heap.size := ⟨_, rfl⟩
  rw [← heb] at hb0 ⊢
  have Heb := hide heb
  have hlen0 : ∀ r, (emp rs A.ns r).length = A.ns.length := emp_len rs A.ns
  clear heb
  go_loopg [4] (A.ns.length + 1) (fun gn v wx => ∃ r : Nat, r ≤ A.ns.length + 1 ∧ gn = A.ns.length + 1 - r ∧ v = .int .i64 r ∧ BoolsAt wx eb (emp rs A.ns r) ∧ Kept (· = eb) w1 wx)
  case atStart => exact ⟨0, by omega, rfl, rfl, hb0, Kept.refl _ _⟩
  case round =>
    obtain ⟨r, hr, hgr, rfl, hBx, hKx⟩ := hrel
    obtain ⟨wx, hwx⟩ : ∃ m, m = wr := ⟨wr, rfl⟩
    subst hwx
    obtain ⟨m, hm⟩ : ∃ m, m = gk := ⟨gk, rfl⟩
    subst hm
    have HGR := hide hgr
    clear hgr
    have hRx := hR1.bools hb0 hKx
    obtain ⟨d0, d1, d2, d3, d4, d5, d6⟩ := hRx.rg.gis.cells
    rw [hnv] at d0
    by_cases hrn : r ≤ A.ns.length
    · go_wp2_with fail
      go_loopg [5] A.ns.length (fun gn v wz => ∃ k : Nat, k ≤ A.ns.length ∧ gn = A.ns.length - k ∧ v = .int .i64 k ∧ BoolsAt wz eb (swp rs A.ns k (emp rs A.ns r)) ∧ Kept (· = eb) w1 wz)
      case atStart => exact ⟨0, by omega, rfl, rfl, hBx, hKx⟩
      case round =>
        obtain ⟨k, hk, hgk, rfl, hBy, hKy⟩ := hrel
        obtain ⟨wy, hwy⟩ : ∃ m, m = wr := ⟨wr, rfl⟩
        subst hwy
        obtain ⟨m2, hm2⟩ : ∃ m, m = gk := ⟨gk, rfl⟩
        subst hm2
        have hRy := hR1.bools hb0 hKy
        obtain ⟨e0, e1, e2, e3, e4, e5, e6⟩ := hRy.rg.gis.cells
        rw [hnv] at e0
        by_cases hlt : k < A.ns.length
        · have hLlen : (swp rs A.ns k (emp rs A.ns r)).length = A.ns.length := by rw [swp_len, hlen0]
          generalize hLL : swp rs A.ns k (emp rs A.ns r) = L at *
          obtain ⟨g, cap2, c, v, cur, hnv2, hog, hsz, hex, NI, hsu, _⟩ := hRy.rg.nodes.get hlt
          rw [hnv] at hnv2
          simp only [Value.slice.injEq] at hnv2
          obtain ⟨hp, _, hcap⟩ := hnv2
          subst hp hcap
          obtain ⟨kb, hkb⟩ : ∃ kb, kb = wy.heap.size := ⟨_, rfl⟩
          have hrow : ((wy.alloc (.cells z59 59)).setRow wy.heap.size c) = wy.alloc (.cells c 59) := World.setRow_alloc_new wy z59 c 59
          have ho := ones_of NI.one
          have hcs : Sz c := NI.size
          have hz : Sz z59 := z59_size
          have hkc : ∀ j, (wy.alloc (.cells c 59)).cell? ⟨wy.heap.size, j, none⟩ = c[j]? := fun j => objAt_cell (objAt_new wy _)
          have heb := objAt_lt hBy
          have hLk : k < L.length := by omega
          have hcl : ∀ o, (wy.alloc (.cells c 59)).cell? ⟨eb, o, none⟩ = wy.cell? ⟨eb, o, none⟩ := fun o => World.cell?_alloc_lt _ _ _ heb
          have hfl : ∀ o, (wy.alloc (.cells c 59)).frozen? ⟨eb, o, none⟩ = wy.frozen? ⟨eb, o, none⟩ := fun o => World.frozen?_alloc_past _ _ _ heb
          have hbk := hBy.cell hLk
          have hbf := hBy.frozen k
          have HSW : Hid (swp rs A.ns (k + 1) (emp rs A.ns r) = L.set k (evN rs A.ns[k] L (L.getD k false))) := by
            unfold Hid; rw [swp, hLL, nth_get hlt]
          have FIN : Hid (∀ x, evN rs A.ns[k] L (L.getD k false) = x →
              BoolsAt ((wy.alloc (.cells c 59)).setCell ⟨eb, k, none⟩ (.bool x)) eb (swp rs A.ns (k + 1) (emp rs A.ns r)) ∧ Kept (· = eb) w1 ((wy.alloc (.cells c 59)).setCell ⟨eb, k, none⟩ (.bool x)) ∧
              BoolsAt ((wy.setCell ⟨eb, k, none⟩ (.bool x)).alloc (.cells c 59)) eb (swp rs A.ns (k + 1) (emp rs A.ns r)) ∧ Kept (· = eb) w1 ((wy.setCell ⟨eb, k, none⟩ (.bool x)).alloc (.cells c 59))) := by
            intro x hx
            subst hx
            rw [HSW.out]
            refine ⟨(hBy.kept ((Kept.refl (fun _ => False) wy).alloc _) id).set k _, (hKy.alloc _).setCell (fun _ => rfl) _, (hBy.set k _).kept ((Kept.refl (fun _ => False) _).alloc _) id, (hKy.setCell (fun _ => rfl) _).alloc _⟩
          have k0 : c[0]? = some (.int .i64 (A.ns[k].kind : Int)) := NI.kind
          have k1 := NI.text
          have k4 := NI.name
          have k6 := NI.subs
          have hNk := hW.wf k A.ns[k] (List.getElem?_eq_getElem hlt)
          clear hkb
          by_cases h0 : A.ns[k].kind = 0
          · have hkk := h0
            clear h0
            have q0 : ((A.ns[k].kind : Int) == 0) = true := beq_iff_eq.2 (by omega)
            have hE : (ba A.ns[k].text).toList.isEmpty = A.ns[k].text.isEmpty := by rw [ba_toList]
            have XV := hide (evN_0 (rs := rs) (L := L) (o := L.getD k false) hkk)
            clear hkk
            go_wp2

            go_roundg (A.ns.length - (k + 1))
            case measure => omega
            case rel =>
              first
                | exact ⟨k + 1, by omega, rfl, by go_num, (FIN.out _ XV.out).1, (FIN.out _ XV.out).2.1⟩
                | exact ⟨k + 1, by omega, rfl, by go_num, (FIN.out _ XV.out).2.2.1, (FIN.out _ XV.out).2.2.2⟩
          · by_cases h3 : A.ns[k].kind = 3
            · have hkk := h3
              clear h3
              have q0 : ((A.ns[k].kind : Int) == 0) = false := beq_eq_false_iff_ne.2 (by omega)
              have q3 : ((A.ns[k].kind : Int) == 3) = true := beq_iff_eq.2 (by omega)

              have XV := hide (evN_3 (rs := rs) (L := L) (o := L.getD k false) hkk)
              obtain ⟨fi, hfi⟩ := Option.isSome_iff_exists.1 (hN A.ns[k] (List.getElem_mem _) hkk)
              have hfl2 := fndI_lt hfi
              have hfn : fnd rs A.ns[k].name = (fi : Int) := by unfold fnd; rw [hfi]
              have HFI := hide hfi
              obtain ⟨rb, rcap, hrv, r0, r1, r2⟩ := hRy.ru.cells hfl2
              have his := hW.is rs[fi] (List.getElem_mem _)
              have hbj := hBy.cell (i := rs[fi].is) (by omega)
              have hrb : rb < wy.heap.size := ((show wy.ownsRow base 44 3 rv rs.length (rs.flatMap rlCells) from hRy.ru).lt rb (by rw [hrv]; rfl)).2
              have hfind := find_any b s base nv rv A.sc rs A.ns[k].name
              rw [hfn] at hfind
              have HF := hide hfind
              have hR9 := hRy.alloc (.cells c 59)
              have hbb := hRy.rg.gis.lt
              have hsl : ∀ o, (wy.alloc (.cells c 59)).cell? ⟨rb, o, none⟩ = wy.cell? ⟨rb, o, none⟩ := fun o => World.cell?_alloc_lt _ _ _ hrb
              have hbl : ∀ o, (wy.alloc (.cells c 59)).cell? ⟨b, o, none⟩ = wy.cell? ⟨b, o, none⟩ := fun o => World.cell?_alloc_lt _ _ _ hbb
              rw [hrv] at e1
              have HX : Hid ((rs.map Rl.is).getD ((fndI rs A.ns[k].name).getD 0) 0 = rs[fi].is) := by unfold Hid; rw [HFI.out]; exact map_getD _ _ _ _ hfl2
              have q1 : (0 : Int) ≤ (fi : Int) := by omega
              have q2 : (fi : Int) < (rs.length : Int) := by omega
              have q3' : (0 : Int) ≤ (rs[fi].is : Int) := by omega
              have q4' : (rs[fi].is : Int) < (A.ns.length : Int) := by omega
              have q5' : (0 : Int) ≤ (k : Int) := by omega
              have q6' : (k : Int) < (A.ns.length : Int) := by omega
              clear hkk hfi hfn hfind hrv
              go_wp2_with fail
              go_region_with (first | (go_at_call 20; refine (HF.out _ (hR9.same _).rg.gis (hR9.same _).ru hl8).mono ?_; rintro e w' ⟨rfl, rfl⟩))
              all_goals
                go_wp2
                go_roundg (A.ns.length - (k + 1))
                case measure => omega
                case rel =>
                  first
                    | exact ⟨k + 1, by omega, rfl, by go_num, (FIN.out _ (XV.out.trans (by rw [HX.out]; exact getD_get (by omega)))).1, (FIN.out _ (XV.out.trans (by rw [HX.out]; exact getD_get (by omega)))).2.1.drew⟩
                    | exact ⟨k + 1, by omega, rfl, by go_num, (FIN.out _ (XV.out.trans (by rw [HX.out]; exact getD_get (by omega)))).2.2.1, (FIN.out _ (XV.out.trans (by rw [HX.out]; exact getD_get (by omega)))).2.2.2.drew⟩
            · by_cases h6 : A.ns[k].kind = 6
              · have hkk := h6
                clear h6
                have q0 : ((A.ns[k].kind : Int) == 0) = false := beq_eq_false_iff_ne.2 (by omega)
                have q3 : ((A.ns[k].kind : Int) == 3) = false := beq_eq_false_iff_ne.2 (by omega)
                have q6 : ((A.ns[k].kind : Int) == 6) = true := beq_iff_eq.2 (by omega)
                have XV := hide (evN_t (rs := rs) (L := L) (o := L.getD k false) (N := A.ns[k]) (by omega))
                clear hkk
                go_wp2

                go_roundg (A.ns.length - (k + 1))
                case measure => omega
                case rel =>
                  first
                    | exact ⟨k + 1, by omega, rfl, by go_num, (FIN.out _ XV.out).1, (FIN.out _ XV.out).2.1⟩
                    | exact ⟨k + 1, by omega, rfl, by go_num, (FIN.out _ XV.out).2.2.1, (FIN.out _ XV.out).2.2.2⟩
              · by_cases h7 : A.ns[k].kind = 7
                · have hkk := h7
                  clear h7
                  have q0 : ((A.ns[k].kind : Int) == 0) = false := beq_eq_false_iff_ne.2 (by omega)
                  have q3 : ((A.ns[k].kind : Int) == 3) = false := beq_eq_false_iff_ne.2 (by omega)
                  have q6 : ((A.ns[k].kind : Int) == 6) = false := beq_eq_false_iff_ne.2 (by omega)
                  have q7 : ((A.ns[k].kind : Int) == 7) = true := beq_iff_eq.2 (by omega)
                  have XV := hide (evN_t (rs := rs) (L := L) (o := L.getD k false) (N := A.ns[k]) (by omega))
                  clear hkk
                  go_wp2

                  go_roundg (A.ns.length - (k + 1))
                  case measure => omega
                  case rel =>
                    first
                      | exact ⟨k + 1, by omega, rfl, by go_num, (FIN.out _ XV.out).1, (FIN.out _ XV.out).2.1⟩
                      | exact ⟨k + 1, by omega, rfl, by go_num, (FIN.out _ XV.out).2.2.1, (FIN.out _ XV.out).2.2.2⟩
                · by_cases h9 : A.ns[k].kind = 9
                  · have hkk := h9
                    clear h9
                    have q0 : ((A.ns[k].kind : Int) == 0) = false := beq_eq_false_iff_ne.2 (by omega)
                    have q3 : ((A.ns[k].kind : Int) == 3) = false := beq_eq_false_iff_ne.2 (by omega)
                    have q6 : ((A.ns[k].kind : Int) == 6) = false := beq_eq_false_iff_ne.2 (by omega)
                    have q7 : ((A.ns[k].kind : Int) == 7) = false := beq_eq_false_iff_ne.2 (by omega)
                    have q9 : ((A.ns[k].kind : Int) == 9) = true := beq_iff_eq.2 (by omega)
                    have XV := hide (evN_t (rs := rs) (L := L) (o := L.getD k false) (N := A.ns[k]) (by omega))
                    clear hkk
                    go_wp2

                    go_roundg (A.ns.length - (k + 1))
                    case measure => omega
                    case rel =>
                      first
                        | exact ⟨k + 1, by omega, rfl, by go_num, (FIN.out _ XV.out).1, (FIN.out _ XV.out).2.1⟩
                        | exact ⟨k + 1, by omega, rfl, by go_num, (FIN.out _ XV.out).2.2.1, (FIN.out _ XV.out).2.2.2⟩
                  · by_cases h10 : A.ns[k].kind = 10
                    · have hkk := h10
                      clear h10
                      have q0 : ((A.ns[k].kind : Int) == 0) = false := beq_eq_false_iff_ne.2 (by omega)
                      have q3 : ((A.ns[k].kind : Int) == 3) = false := beq_eq_false_iff_ne.2 (by omega)
                      have q6 : ((A.ns[k].kind : Int) == 6) = false := beq_eq_false_iff_ne.2 (by omega)
                      have q7 : ((A.ns[k].kind : Int) == 7) = false := beq_eq_false_iff_ne.2 (by omega)
                      have q9 : ((A.ns[k].kind : Int) == 9) = false := beq_eq_false_iff_ne.2 (by omega)
                      have q10 : ((A.ns[k].kind : Int) == 10) = true := beq_iff_eq.2 (by omega)
                      have XV := hide (evN_t (rs := rs) (L := L) (o := L.getD k false) (N := A.ns[k]) (by omega))
                      clear hkk
                      go_wp2

                      go_roundg (A.ns.length - (k + 1))
                      case measure => omega
                      case rel =>
                        first
                          | exact ⟨k + 1, by omega, rfl, by go_num, (FIN.out _ XV.out).1, (FIN.out _ XV.out).2.1⟩
                          | exact ⟨k + 1, by omega, rfl, by go_num, (FIN.out _ XV.out).2.2.1, (FIN.out _ XV.out).2.2.2⟩
                    · by_cases h8 : A.ns[k].kind = 8
                      · have hkk := h8
                        clear h8
                        have q0 : ((A.ns[k].kind : Int) == 0) = false := beq_eq_false_iff_ne.2 (by omega)
                        have q3 : ((A.ns[k].kind : Int) == 3) = false := beq_eq_false_iff_ne.2 (by omega)
                        have q6 : ((A.ns[k].kind : Int) == 6) = false := beq_eq_false_iff_ne.2 (by omega)
                        have q7 : ((A.ns[k].kind : Int) == 7) = false := beq_eq_false_iff_ne.2 (by omega)
                        have q9 : ((A.ns[k].kind : Int) == 9) = false := beq_eq_false_iff_ne.2 (by omega)
                        have q10 : ((A.ns[k].kind : Int) == 10) = false := beq_eq_false_iff_ne.2 (by omega)
                        have q8 : ((A.ns[k].kind : Int) == 8) = true := beq_iff_eq.2 (by omega)

                        have XV := hide (evN_8 (rs := rs) (L := L) (o := L.getD k false) hkk)
                        obtain ⟨x, hx⟩ := hNk.one (by omega)
                        have hpos : 0 < A.ns[k].subs.length := by rw [hx]; simp
                        obtain ⟨sb, scap, hv, hsc⟩ := subs_cell hsu hpos
                        have hj : A.ns[k].subs.getD 0 0 < k := hNk.low _ (by rw [hx]; simp)
                        have hsb : sb < wy.heap.size := (hsu.lt sb (by rw [hv]; rfl)).2
                        have hsl : ∀ o, (wy.alloc (.cells c 59)).cell? ⟨sb, o, none⟩ = wy.cell? ⟨sb, o, none⟩ := fun o => World.cell?_alloc_lt _ _ _ hsb
                        rw [hv] at k6
                        generalize A.ns[k].subs.getD 0 0 = j at *
                        have hbj := hBy.cell (i := j) (by omega)
                        have hpos' : (0 : Int) < (A.ns[k].subs.length : Int) := by omega
                        clear hkk hx hv hNk hsu
                        go_wp2

                        go_roundg (A.ns.length - (k + 1))
                        case measure => omega
                        case rel =>
                          first
                            | exact ⟨k + 1, by omega, rfl, by go_num, (FIN.out _ XV.out).1, (FIN.out _ XV.out).2.1⟩
                            | exact ⟨k + 1, by omega, rfl, by go_num, (FIN.out _ XV.out).2.2.1, (FIN.out _ XV.out).2.2.2⟩
                      · by_cases h4 : A.ns[k].kind = 4
                        · have hkk := h4
                          clear h4
                          have q0 : ((A.ns[k].kind : Int) == 0) = false := beq_eq_false_iff_ne.2 (by omega)
                          have q3 : ((A.ns[k].kind : Int) == 3) = false := beq_eq_false_iff_ne.2 (by omega)
                          have q6 : ((A.ns[k].kind : Int) == 6) = false := beq_eq_false_iff_ne.2 (by omega)
                          have q7 : ((A.ns[k].kind : Int) == 7) = false := beq_eq_false_iff_ne.2 (by omega)
                          have q9 : ((A.ns[k].kind : Int) == 9) = false := beq_eq_false_iff_ne.2 (by omega)
                          have q10 : ((A.ns[k].kind : Int) == 10) = false := beq_eq_false_iff_ne.2 (by omega)
                          have q8 : ((A.ns[k].kind : Int) == 8) = false := beq_eq_false_iff_ne.2 (by omega)
                          have q4 : ((A.ns[k].kind : Int) == 4) = true := beq_iff_eq.2 (by omega)

                          have XV := hide (evN_4 (rs := rs) (L := L) (o := L.getD k false) hkk)
                          have hLS := subs_low hNk.low
                          have hsle := ownsRow_le hsu
                          have hebk : eb ≠ wy.heap.size := by omega
                          have hO1 : objAt (wy.alloc (.cells c 59)) wy.heap.size = some (.cells c 59 (0, 0)) := objAt_new _ _
                          have hB1 : BoolsAt (wy.alloc (.cells c 59)) eb L := hBy.kept ((Kept.refl (fun _ => False) wy).alloc _) id
                          have hK1' : Kept (· = eb) wy (wy.alloc (.cells c 59)) := (Kept.refl _ wy).alloc _
                          have hK1w : Kept (· = eb) w1 (wy.alloc (.cells c 59)) := hKy.alloc _
                          clear hkk hNk
                          go_wp2_with fail
                          obtain ⟨kb, hkb⟩ : ∃ kb, kb = wy.heap.size := ⟨_, rfl⟩
                          rw [← hkb] at hO1 hebk ⊢
                          generalize hW1 : wy.alloc (.cells c 59) = W1 at *
                          clear hW1 hkb hrow hkc hcl hfl hbk hbf FIN
                          go_loopg [7] A.ns[k].subs.length (fun gn v wz => ∃ q : Nat, q ≤ A.ns[k].subs.length ∧ gn = A.ns[k].subs.length - q ∧ v = .int .i64 q ∧ BoolsAt wz eb (L.set k (L.getD k false || (A.ns[k].subs.take q).any (fun j => L.getD j false))) ∧ Kept (· = eb) wy wz ∧ Kept (· = eb) w1 wz ∧ objAt wz kb = some (.cells c 59 (0, 0)))
                          case atStart => exact ⟨0, by omega, rfl, rfl, by simp only [List.take_zero, List.any_nil, Bool.or_false, set_same]; exact hB1, hK1', hK1w, hO1⟩
                          case round =>
                            obtain ⟨q, hq, hgq, rfl, hBz, hKz, hKzw, hOz⟩ := hrel
                            have HGQ := hide hgq
                            clear hgq
                            obtain ⟨wz, hwz⟩ : ∃ m, m = wr := ⟨wr, rfl⟩
                            subst hwz
                            have hz261 : wz.cell? ⟨kb, 261, none⟩ = some v := by rw [objAt_cell hOz]; exact NI.subs
                            by_cases hqlt : q < A.ns[k].subs.length
                            · have hsu' := ownsRow_kept hsu hKz (fun i e h => by
                                obtain ⟨x, hx⟩ := ownsRow_obj hsu e
                                subst h
                                rw [show objAt wy i = _ from hBy] at hx; simp at hx)
                              obtain ⟨sb, scap, hv, hsc⟩ := subs_cell hsu' hqlt
                              rw [hv] at hz261
                              have hj := hLS q hqlt
                              have hts := any_take_getD (l := A.ns[k].subs) (fun j => L.getD j false) hqlt
                              generalize A.ns[k].subs.getD q 0 = j at *
                              generalize hV : (L.getD k false || (A.ns[k].subs.take q).any (fun j => L.getD j false)) = V at *
                              have HV := hide hV
                              clear hV
                              have ek : (L.set k V).getD k false = V := getD_set_same hLk
                              have ej : (L.set k V).getD j false = L.getD j false := getD_set_ne (by omega)
                              have b1 := hBz.cell (i := k) (by simp; omega)
                              have b2 := hBz.cell (i := j) (by simp; omega)
                              rw [ek] at b1
                              rw [ej] at b2
                              have b3 := hBz.frozen k
                              have HTS : Hid ((L.getD k false || (A.ns[k].subs.take (q + 1)).any (fun j => L.getD j false)) = (V || L.getD j false)) := by
                                unfold Hid; rw [hts, ← HV.out, Bool.or_assoc]
                              have hqlt' : (q : Int) < (A.ns[k].subs.length : Int) := by omega
                              clear hts ek ej hv hsu'
                              cases V
                              · go_wp2
                                go_roundg (A.ns[k].subs.length - (q + 1))
                                case measure => have := HGQ.out; omega
                                case rel => exact ⟨q + 1, by omega, rfl, by go_num, by rw [HTS.out, Bool.false_or]; have := hBz.set k (L.getD j false); rw [List.set_set] at this; exact this, hKz.setCell (fun _ => rfl) _, hKzw.setCell (fun _ => rfl) _, by rw [objAt_other _ _ _ (Ne.symm hebk)]; exact hOz⟩
                              · go_wp2
                                go_roundg (A.ns[k].subs.length - (q + 1))
                                case measure => have := HGQ.out; omega
                                case rel => exact ⟨q + 1, by omega, rfl, by go_num, by rw [HTS.out, Bool.true_or]; have := hBz.set k true; rw [List.set_set] at this; exact this, hKz.setCell (fun _ => rfl) _, hKzw.setCell (fun _ => rfl) _, by rw [objAt_other _ _ _ (Ne.symm hebk)]; exact hOz⟩
                            · have hqe : q = A.ns[k].subs.length := by omega
                              subst hqe
                              rw [List.take_of_length_le (Nat.le_refl _), ← XV.out, ← HSW.out] at hBz
                              obtain ⟨p0, cp0, hv0⟩ := ownsRow_form hsu
                              rw [hv0] at hz261
                              clear hv0
                              go_wp2
                              go_roundg (A.ns.length - (k + 1))
                              case measure => omega
                              case rel => exact ⟨k + 1, by omega, rfl, by go_num, hBz, hKzw⟩
                        · by_cases h5 : A.ns[k].kind = 5
                          · have hkk := h5
                            clear h5
                            have q0 : ((A.ns[k].kind : Int) == 0) = false := beq_eq_false_iff_ne.2 (by omega)
                            have q3 : ((A.ns[k].kind : Int) == 3) = false := beq_eq_false_iff_ne.2 (by omega)
                            have q6 : ((A.ns[k].kind : Int) == 6) = false := beq_eq_false_iff_ne.2 (by omega)
                            have q7 : ((A.ns[k].kind : Int) == 7) = false := beq_eq_false_iff_ne.2 (by omega)
                            have q9 : ((A.ns[k].kind : Int) == 9) = false := beq_eq_false_iff_ne.2 (by omega)
                            have q10 : ((A.ns[k].kind : Int) == 10) = false := beq_eq_false_iff_ne.2 (by omega)
                            have q8 : ((A.ns[k].kind : Int) == 8) = false := beq_eq_false_iff_ne.2 (by omega)
                            have q4 : ((A.ns[k].kind : Int) == 4) = false := beq_eq_false_iff_ne.2 (by omega)
                            have q5 : ((A.ns[k].kind : Int) == 5) = true := beq_iff_eq.2 (by omega)

                            have XV := hide (evN_5 (rs := rs) (L := L) (o := L.getD k false) hkk)
                            have hLS := subs_low hNk.low
                            have hsle := ownsRow_le hsu
                            obtain ⟨p0, cp0, hv0⟩ := ownsRow_form hsu
                            rw [hv0] at k6
                            have HV0 := hide hv0
                            clear hkk hNk hv0
                            go_wp2_with fail
                            go_loopg [8, 9] A.ns[k].subs.length (fun gn a v wz => ∃ q : Nat, q ≤ A.ns[k].subs.length ∧ gn = A.ns[k].subs.length - q ∧ v = .int .i64 q ∧ a = .bool ((A.ns[k].subs.take q).all (fun j => L.getD j false)) ∧ wz = wy.alloc (.cells c 59))
                            case atStart => exact ⟨0, by omega, rfl, rfl, rfl, rfl⟩
                            case round =>
                              obtain ⟨q, hq, hgq, rfl, rfl, rfl⟩ := hrel
                              have HGQ := hide hgq
                              clear hgq
                              by_cases hqlt : q < A.ns[k].subs.length
                              · obtain ⟨sb, scap, hv, hsc⟩ := subs_cell hsu hqlt
                                have hsb : sb < wy.heap.size := (hsu.lt sb (by rw [hv]; rfl)).2
                                have hsl : ∀ o, (wy.alloc (.cells c 59)).cell? ⟨sb, o, none⟩ = wy.cell? ⟨sb, o, none⟩ := fun o => World.cell?_alloc_lt _ _ _ hsb
                                have hv2 := HV0.out
                                rw [hv] at hv2
                                simp only [Value.slice.injEq] at hv2
                                obtain ⟨e1, _, e2⟩ := hv2
                                subst e1 e2
                                have hj := hLS q hqlt
                                have hts := all_take_getD (l := A.ns[k].subs) (fun j => L.getD j false) hqlt
                                generalize A.ns[k].subs.getD q 0 = j at *
                                have hbj := hBy.cell (i := j) (by omega)
                                generalize hV : (A.ns[k].subs.take q).all (fun j => L.getD j false) = V at *
                                have HTS := hide hts
                                have hqlt' : (q : Int) < (A.ns[k].subs.length : Int) := by omega
                                clear hts hV hv
                                cases V
                                · go_wp2
                                  go_roundg (A.ns[k].subs.length - (q + 1))
                                  case measure => have := HGQ.out; omega
                                  case rel => exact ⟨q + 1, by omega, rfl, by go_num, by rw [HTS.out]; rfl, rfl⟩
                                · go_wp2
                                  go_roundg (A.ns[k].subs.length - (q + 1))
                                  case measure => have := HGQ.out; omega
                                  case rel => exact ⟨q + 1, by omega, rfl, by go_num, by rw [HTS.out]; rfl, rfl⟩
                              · have hqe : q = A.ns[k].subs.length := by omega
                                subst hqe
                                rw [List.take_of_length_le (Nat.le_refl _)]
                                go_wp2
                                go_roundg (A.ns.length - (k + 1))
                                case measure => omega
                                case rel =>
                                  first
                                    | exact ⟨k + 1, by omega, rfl, by go_num, (FIN.out _ XV.out).1, (FIN.out _ XV.out).2.1⟩
                                    | exact ⟨k + 1, by omega, rfl, by go_num, (FIN.out _ XV.out).2.2.1, (FIN.out _ XV.out).2.2.2⟩
                          · have q0 : ((A.ns[k].kind : Int) == 0) = false := beq_eq_false_iff_ne.2 (by omega)
                            have q3 : ((A.ns[k].kind : Int) == 3) = false := beq_eq_false_iff_ne.2 (by omega)
                            have q6 : ((A.ns[k].kind : Int) == 6) = false := beq_eq_false_iff_ne.2 (by omega)
                            have q7 : ((A.ns[k].kind : Int) == 7) = false := beq_eq_false_iff_ne.2 (by omega)
                            have q9 : ((A.ns[k].kind : Int) == 9) = false := beq_eq_false_iff_ne.2 (by omega)
                            have q10 : ((A.ns[k].kind : Int) == 10) = false := beq_eq_false_iff_ne.2 (by omega)
                            have q8 : ((A.ns[k].kind : Int) == 8) = false := beq_eq_false_iff_ne.2 (by omega)
                            have q4 : ((A.ns[k].kind : Int) == 4) = false := beq_eq_false_iff_ne.2 (by omega)
                            have q5 : ((A.ns[k].kind : Int) == 5) = false := beq_eq_false_iff_ne.2 (by omega)
                            have XV := hide (evN_1 (rs := rs) (L := L) (o := L.getD k false) (N := A.ns[k]) (by have := hNk.kind; omega))
                            clear h0 h3 h6 h7 h9 h10 h8 h4 h5
                            go_wp2
                            go_roundg (A.ns.length - (k + 1))
                            case measure => omega
                            case rel => exact ⟨k + 1, by omega, rfl, by go_num, by rw [HSW.out, XV.out, set_same]; exact hBy.kept ((Kept.refl (fun _ => False) wy).alloc _) id, hKy.alloc _⟩
        · have hke : k = A.ns.length := by omega
          subst hke
          go_wp2
          go_roundg (A.ns.length + 1 - (r + 1))
          case measure => have := HGR.out; omega
          case rel => exact ⟨r + 1, by omega, rfl, by go_num, hBy, hKy⟩
    · have hre : r = A.ns.length + 1 := by omega
      subst hre
      go_wp2
      go_ret
      exact ⟨by rw [Heb.out]; rfl, by rw [← Heb.out, HEM.out]; exact hBx, hK1.then hKx (fun i hi e => by have := Heb.out; omega)⟩

end Go.Proofs.Ytagklnaaoclmhaa
