import Derived.Test.YtagklnaaoclmhaaCoeD
import Derived.Test.YtagklnaaoclmhaaRefY
set_option linter.unusedSimpArgs false
set_option linter.unusedVariables false
namespace Go.Proofs.Ytagklnaaoclmhaa
open Go.RowKit
attribute [local go_sem ↓] exec_load83 exec_alloc83 exec_store83
attribute [local go_sem] load83At_ptr load83Of_some store83At_ptr store83Of_some objAt_drew objAt_drewN objAt_new objAt_old

/-- What ends leaves. -/
structure EnOut (rs : List Rl) (ns : List Nd) (w : World) (e : Ending) (w' : World) : Prop where
  ok : endless rs ns < 0 → e = .returned (.tuple #[.int .i64 0, .bool true])
  no : 0 ≤ endless rs ns → e = .returned (.tuple #[.int .i64 (endless rs ns), .bool false])
  kept : Kept (fun _ => False) w w'

/-- While ends goes over the rules. -/
structure EnI (base gb : Nat) (rv : Value) (P : List Nat) (ρ : Nat → Int) (rs : List Rl) (ns : List Nd) (S : Nat → Bool) (M : Nat → Nat → Bool) (k4 k5 : Nat) (w wx : World) : Prop where
  gm : Gm wx base gb rv P ρ rs ns
  set : wx.heap[k4]? = some (.cells (bl8 S) 81)
  row : wx.heap[k5]? = some (.cells (mat M) 83)
  kept : Kept (fun _ => False) w wx
theorem EnI.same {base gb k4 k5 : Nat} {rv : Value} {P : List Nat} {ρ : Nat → Int} {rs : List Rl} {ns : List Nd} {S : Nat → Bool} {w wx w' : World} {M : Nat → Nat → Bool} (h : EnI base gb rv P ρ rs ns S M k4 k5 w wx) (hk : Kept (fun _ => False) wx w') : EnI base gb rv P ρ rs ns S M k4 k5 w w' :=
  ⟨h.gm.same hk, by rw [hk.block _ (objAt_lt (show objAt wx _ = _ from h.set)) (fun x => x)]; exact h.set, by rw [hk.block _ (objAt_lt (show objAt wx _ = _ from h.row)) (fun x => x)]; exact h.row, h.kept.trans hk⟩

theorem endless_at {rs : List Rl} {ns : List Nd} {S : Nat → Bool} (hW : WfR ns rs) (hN : ∀ N ∈ ns, N.kind = 3 → (fndI rs N.name).isSome = true) (hS : Lst rs ns S) {k : Nat} (hk : k < rs.length) (h1 : ∀ u, u < k → cEnd rs ns S u = false) (h2 : cEnd rs ns S k = true) : endless rs ns = (rs[k].at_ : Int) := by
  have := endI_at rs ns k hk (fun u hu => by rw [endless_code hW hN hS u (by omega)]; exact h1 u hu) (by rw [endless_code hW hN hS k hk]; exact h2)
  unfold endless
  rw [this]
  simp only [map_getD _ _ _ _ hk]
theorem endless_no {rs : List Rl} {ns : List Nd} {S : Nat → Bool} (hW : WfR ns rs) (hN : ∀ N ∈ ns, N.kind = 3 → (fndI rs N.name).isSome = true) (hS : Lst rs ns S) (h1 : ∀ u, u < rs.length → cEnd rs ns S u = false) : endless rs ns < 0 := by
  have := endI_none rs ns (fun u hu => by rw [endless_code hW hN hS u hu]; exact h1 u hu)
  unfold endless
  rw [this]
  show (-1 : Int) < 0
  decide

set_option maxRecDepth 100000 in
set_option maxHeartbeats 6400000 in
theorem ends_code {base gb : Nat} {rv : Value} {P : List Nat} {ρ : Nat → Int} {rs : List Rl} {ns : List Nd} (hW : WfR ns rs) (hN : ∀ N ∈ ns, N.kind = 3 → (fndI rs N.name).isSome = true) (hρ : ∀ i, i < ns.length → (nth ns i).kind = 3 → ρ i = (ruI rs (nth ns i) : Int)) (hn : ns.length ≤ 5000) (hsl : ∀ i, i < ns.length → (nth ns i).subs.length ≤ 9223372036854775807) (w : World) (hG : Gm w base gb rv P ρ rs ns) :
    Calls Try.prog 15 #[.pointer (some ⟨gb, 0, none⟩)] w fun e w' => EnOut rs ns w e w' := by
  have hl8 := hW.len
  obtain ⟨rp, rc, hrv⟩ := ownsRow_form hG.own
  go_enter Try.func15, Try.ntmps15
  go_wp2_with fail
  refine (emptyRules_code hW hN hρ hn hsl w hG).mono ?_
  intro e w1 hEm
  obtain ⟨S, rfl, hLst, hout⟩ := hEm.res
  have hK1 := hEm.kept
  have hG1 := hG.same hK1
  have hG2 := hG1.same ((Kept.refl (fun _ => False) w1).alloc (.cells (bl8 S) 81))
  have hlead := leads_code hW (addBegins_code (S := S) hW hN hρ hn hsl ns.length) _ hG2
  have hRE := repeats_said (base := base) (gb := gb) (rv := rv) (P := P) (ρ := ρ) (S := S) hW hsl (isEmpty_code (S := S) hW hN hρ hn hsl ns.length) ns.length
  obtain ⟨MF, hMF⟩ : ∃ MF, MF = cK (m0 rs ns S) 8 := ⟨_, rfl⟩
  rw [← hMF] at hlead
  have hms2 : (mat MF).size = 64 := mat_size MF
  have hone : ones (mat MF) = true := by
    unfold ones mat
    simp
    intro x _
    rfl
  have hz64 := z83_size
  have hAt := fun (k : Nat) (hk : k < rs.length) => endless_at (k := k) hW hN hLst hk
  have hNo := endless_no hW hN hLst
  have hcE : ∀ k, cEnd rs ns S k = (MF k k || rE rs ns S ns.length (isI rs k)) := fun k => by unfold cEnd; rw [← hMF]
  clear hMF hEm
  unfold bl8 at hlead ⊢
  go_wp2_with fail
  refine hlead.mono ?_
  rintro e w3 ⟨rfl, hK3⟩
  have hkz : w1.heap.size < w3.heap.size := by have := hK3.size; simp at this; omega
  have hI0 : EnI base gb rv P ρ rs ns S MF w1.heap.size w3.heap.size w ((w3.alloc (.cells z83 83)).setRow w3.heap.size (mat MF)) := by
    have hKr : Kept (· = w3.heap.size) (w3.alloc (.cells z83 83)) ((w3.alloc (.cells z83 83)).setRow w3.heap.size (mat MF)) := ⟨rfl, rfl, rfl, by simp, fun k _ hk => setRow_other _ _ _ _ hk⟩
    have hK4 : Kept (fun _ => False) w3 ((w3.alloc (.cells z83 83)).setRow w3.heap.size (mat MF)) := ((Kept.refl (fun _ => False) w3).alloc _).new hKr (Nat.le_refl _)
    have hK5 := hK3.trans hK4
    refine ⟨hG2.same hK5, ?_, setRow_heap _ _ _ _ 83 (0, 0) (heap_alloc_new _ _), hK1.trans (((Kept.refl (fun _ => False) w1).alloc _).trans hK5)⟩
    rw [hK5.block _ (by simp) (fun x => x)]
    exact heap_alloc_new _ _
  obtain ⟨z', hz'⟩ := hI0.gm.gram
  obtain ⟨e0, e1, ef0, ef1⟩ := cells2 hz'
  subst hrv
  clear hz'
  go_wp2
  clear e0 e1 ef0 ef1
  go_loopg [18] rs.length (fun n v wx => ∃ k : Nat, Hid (k + n = rs.length) ∧ v = .int .i64 k ∧ EnI base gb (.slice rp rs.length rc) P ρ rs ns S MF w1.heap.size w3.heap.size w wx ∧ Hid (∀ u, u < k → cEnd rs ns S u = false))
  case atStart => exact ⟨0, Nat.zero_add _, rfl, hI0, fun u hu => absurd hu (by omega)⟩
  case round =>
    obtain ⟨k, hkn, rfl, hI, HA⟩ := hrel
    obtain ⟨m, hm⟩ : ∃ m, m = gk := ⟨gk, rfl⟩
    subst hm
    clear hI0
    by_cases hlt : k < rs.length
    · obtain ⟨rb, rcap, hrv, r0, r1, r2⟩ := rl_cells hI.gm.own hlt
      simp only [Value.slice.injEq] at hrv
      obtain ⟨hp, _, hcap⟩ := hrv
      subst hp hcap
      unfold ptrAt at r2
      have hisl : rs[k].is < ns.length := hW.is _ (List.getElem_mem hlt)
      have hisI : isI rs k = rs[k].is := map_getD _ _ _ _ hlt
      have hk8 : k < 8 := by omega
      have hk8' : (k : Int) < 8 := by omega
      have hck := hcE k
      rw [hisI] at hck
      have HY := hide (fun h : cEnd rs ns S k = true => hAt k hlt HA.out h)
      have HZ := hide (fun h : cEnd rs ns S k = false => (fun u (hu : u < k + 1) => by
        rcases Nat.lt_or_eq_of_le (Nat.lt_succ_iff.1 hu) with h1 | h1
        · exact HA.out u h1
        · subst h1; exact h : ∀ u, u < k + 1 → cEnd rs ns S u = false))
      have hI6 := fun (X : World) (hK : Kept (fun _ => False) wr X) => hI.same hK
      have hre := fun (X : World) (hK : Kept (fun _ => False) wr X) => hRE rs[k].is X hisl hisl (hI6 X hK).gm
      have hc := matcell hI.row hk8 hk8
      obtain ⟨d0, d1, d2, d3, d4, d5, d6, d7⟩ := cells8 hI.set
      have hs4 := objAt_lt (show objAt wr _ = _ from hI.set)
      have hs5 := objAt_lt (show objAt wr _ = _ from hI.row)
      have hn4 : w1.heap.size ≠ wr.heap.size := by omega
      have hn5 : w3.heap.size ≠ wr.heap.size := by omega
      have hkp := hI.kept
      generalize rE rs ns S ns.length rs[k].is = re at *
      generalize hmk : MF k k = mk at *
      generalize rs[k].name = rn at *
      generalize rs[k].at_ = ra at *
      generalize P.getD rs[k].is 0 = pq at *
      unfold bl8 at hre
      clear hmk hisI hisl HA hRE hAt hI
      cases mk
      · rw [Bool.false_or] at hck
        go_wp2_with fail
        refine (hre _ ((Kept.refl _ _).alloc _)).mono ?_
        rintro e w7 ⟨rfl, hK7⟩
        have hK8 : Kept (fun _ => False) wr w7 := ((Kept.refl _ _).alloc _).trans hK7
        have hk7 : w7.heap[wr.heap.size]? = some (.cells #[.string (ba rn), .int .i64 (ra : Int), .pointer (some ⟨pq, 0, none⟩)] 69) := by
          rw [hK7.block _ (by simp) (fun x => x)]; exact heap_alloc_new _ _
        obtain ⟨x0, x1, x2, xf0, xf1, xf2⟩ := cells3 hk7
        cases re
        · have HN := hide (HZ.out hck)
          have HI8 := hide (hI6 w7 hK8)
          clear HY HZ hck hI6
          go_wp2
          go_roundg (m - 1)
          case measure => have := hkn.out; omega
          case rel => exact ⟨k + 1, by have := hkn.out; unfold Hid; omega, by go_num, HI8.out, HN.out⟩
        · have HN := hide (HY.out hck)
          clear HY HZ hck hI6
          go_wp2
          go_ret2
          exact ⟨fun h => absurd h (by rw [HN.out]; omega), fun _ => by rw [HN.out]; rfl, hkp.trans hK8⟩
      · rw [Bool.true_or] at hck
        have HN := hide (HY.out hck)
        clear HY HZ hck hI6
        go_wp2
        go_ret2
        exact ⟨fun h => absurd h (by rw [HN.out]; omega), fun _ => by rw [HN.out]; rfl, hkp.trans ((Kept.refl _ _).alloc _)⟩
    · have hkl : k = rs.length := by have := hkn.out; omega
      have HN : Hid (endless rs ns < 0) := hNo (fun u hu => HA.out u (by omega))
      have hkp := hI.kept
      clear hI HA
      go_wp2
      go_ret2
      exact ⟨fun _ => rfl, fun h => absurd HN.out (by omega), hkp⟩
end Go.Proofs.Ytagklnaaoclmhaa
