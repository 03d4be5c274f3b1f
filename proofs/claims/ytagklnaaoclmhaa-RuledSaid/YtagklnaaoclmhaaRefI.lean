import Derived.Test.YtagklnaaoclmhaaRefG
set_option linter.unusedSimpArgs false
set_option linter.unusedVariables false
namespace Go.Proofs.Ytagklnaaoclmhaa
open Go.RowKit
attribute [local go_sem ↓] exec_load59 exec_alloc59 exec_store59 exec_build59 exec_buildSlice36
attribute [local go_sem] load59At_ptr load59Of_some store59At_ptr store59Of_some build59_nil build59_kind build59_term build59_name build59_subs buildSlice36_some objAt_drew objAt_drewN objAt_new objAt_old

/-- part. -/
theorem part_does {s : ByteArray} {ch : St → St × Nat} {d : Nat} (hch : d = 0 ∨ Does 19 s ch (d - 1) ∧ Good s ch (d - 1)) : Does 57 s (partM s ch) d := by
  intro base b nv rv U A w hR hO hd
  cases hl : letterB (pk s (bl s A.sc) : Int)
  · by_cases h46 : pk s (bl s A.sc) = 46
    · exact part_dot s ch base b nv rv U A w hR hO h46
    · by_cases h39 : pk s (bl s A.sc) = 39
      · exact part_lit s ch base b nv rv U A w hR hO h39
      · by_cases h91 : pk s (bl s A.sc) = 91
        · exact part_class s ch base b nv rv U A w hR hO h91
        · by_cases h40 : pk s (bl s A.sc) = 40 ∧ (bl s A.sc).op < 5
          · rcases hch with h0 | ⟨h1, h2⟩
            · have := bl_op s A.sc; omega
            · exact part_open s ch base b nv rv U A w hR hO h40.1 h40.2 hd h1 h2
          · exact part_bad s ch base b nv rv U A w hR hO hl h46 h39 h91 h40
  · exact part_name s ch base b nv rv U A w hR hO hl

theorem Ok.sc {s : ByteArray} {A : St} (h : Ok s A) {g : Sc} (hf : Fs s A.sc g) (ht : g.t = A.sc.t) : Ok s { A with sc := g } := by
  refine ⟨hf.iv, by dsimp only; rw [ht]; exact h.t, ?_, by dsimp only; rw [hf.op]; exact h.op, h.size⟩
  have := h.pt; have := hf.rest; unfold Pt at *; dsimp only; omega

set_option maxRecDepth 100000 in
set_option maxHeartbeats 6400000 in
theorem item_9 {s : ByteArray} {ch : St → St × Nat} {d : Nat} (hgd : d = 0 ∨ Good s ch (d - 1)) (hpart : Does 57 s (partM s ch) d) (base b : Nat) (nv rv : Value) (U : Nat → Prop) (A : St) (w : World) (hR : RG w base b s nv rv U A) (hO : Ok s A) (hd : 5 ≤ A.sc.op + d) (h1 : sgB s A.sc 38 = true) :
    Calls Try.prog 48 #[.pointer (some ⟨b, 0, none⟩)] w fun e w' => e = .returned (.int .i64 ((itemM s ch A).2 : Int)) ∧ ∃ nv' U', RG w' base b s nv' rv U' (itemM s ch A).1 ∧ Stp w.heap.size b nv nv' U U' w w' := by
  have hs := hO.size
  obtain ⟨f0, t0, k0⟩ := aheadS_fs hO.iv
  have HP : Hid (itemM s ch A = aheadM 9 (repM s (partM s ch { A with sc := sg s A.sc 38 }))) := by
    unfold Hid itemM aheadK aheadS; rw [h1]; rfl
  have hOk1 : Ok s { A with sc := sg s A.sc 38 } := by
    have := hO.sc f0 t0
    unfold aheadS at this
    rw [h1] at this; exact this
  have hd1 : 5 ≤ ({ A with sc := sg s A.sc 38 } : St).sc.op + d := by
    have := f0.op
    unfold aheadS at this
    rw [h1] at this; simp only [if_true] at this
    dsimp only; omega
  clear f0 t0 k0
  generalize itemM s ch A = r at *
  go_enter Try.func48, Try.ntmps48
  go_wp2_with fail
  refine (sign_any b s nv rv A.sc 38 _ hR.gis hs).mono ?_
  rintro e w1 ⟨rfl, hG1, hK1⟩
  rw [h1]
  generalize sg s A.sc 38 = g1 at *
  go_wp2_with fail
  have hfc := part_fc hgd (A := { A with sc := g1 }) hOk1.iv hd1
  refine (hpart base b nv rv U { A with sc := g1 } _ (hR.only hK1 hG1) hOk1 hd1).mono ?_
  rintro e w2 ⟨rfl, nv2, U2, hR2, hS2'⟩
  have hS2 : Stp w.heap.size b nv nv2 U U2 w w2 := (Stp.only hK1).trans hS2'
  have hpt := hfc.pot'
  have hpt1 := hOk1.pt
  have hivB := hfc.iv
  generalize partM s ch { A with sc := g1 } = X at *
  obtain ⟨B, x⟩ := X
  dsimp only at *
  have hlenB : B.ns.length ≤ 3001 := by unfold Pt at hpt hpt1; dsimp only at *; omega
  go_wp2_with fail
  refine (blanks_any b s nv2 rv B.sc _ hR2.gis hs).mono ?_
  rintro e w3 ⟨rfl, hG3, hK3⟩
  have HR3 : Hid (repM s (B, x) = if kindOf (pk s (bl s B.sc)) > 0 then addN { B with sc := adv (bl s B.sc) } { nd0 with kind := kindOf (pk s (bl s B.sc)), subs := [x] } else ({ B with sc := bl s B.sc }, x)) := rfl
  have hat3 := hivB.bl.2
  generalize bl s B.sc = g3 at *
  go_wp2_with fail
  refine (peek_any b s nv2 rv g3 _ hG3 hs).mono ?_
  rintro e w4 ⟨rfl, n4, rfl⟩
  clear hpt hpt1 hivB hOk1 hfc hgd hpart
  by_cases h63 : pk s g3 = 63
  · have HREP : Hid (repM s (B, x) = addN { B with sc := adv g3 } { nd0 with kind := 6, subs := [x] }) := by
      unfold Hid; rw [HR3.out, show kindOf (pk s g3) = 6 by unfold kindOf; rw [if_pos h63]]; rfl
    have q63 : ((pk s g3 : Int) == 63) = true := by simp; omega
    clear h63
    have hlenB' : B.ns.length ≤ 100000 := by omega
    obtain ⟨c0, c1, c2, c3, c4, c5, c6⟩ := hG3.cells
    have hf5 := hG3.frozen 5
    have hG4 : Gis ((w3.drewN n4).setCell ⟨b, 5, none⟩ (.int .i64 ((g3.at_ : Int) + 1))) b s nv2 rv (adv g3) := (hG3.drewN n4).setAt _
    have hK4 : Kept (· = b) w2 ((w3.drewN n4).setCell ⟨b, 5, none⟩ (.int .i64 ((g3.at_ : Int) + 1))) := (hK3.drewN n4).setCell (fun _ => rfl) _
    have hR4 := hR2.only hK4 hG4
    have hhs : ((w3.drewN n4).setCell ⟨b, 5, none⟩ (.int .i64 ((g3.at_ : Int) + 1))).heap.size = w3.heap.size := by simp [World.setCell]
    have hc4 : NodeIs ((z59.setIfInBounds 0 (.int .i64 6)).setIfInBounds 261 (.slice (some ⟨w3.heap.size, 0, none⟩) 1 1)) { nd0 with kind := 6, subs := [x] } (.slice (some ⟨w3.heap.size, 0, none⟩) 1 1) := (NodeIs.zero.setKind 6).setSubs [x] _ _ _
    go_wp2_with fail
    refine (addOne x w3.heap.size hR4 hhs hc4 rfl (by dsimp only; omega)).mono ?_
    rintro e w5 ⟨rfl, nv5, U5, hR5, hS5'⟩
    have hS5 : Stp w.heap.size b nv nv5 U U5 w w5 := hS2.trans ((Stp.only hK4).trans hS5')
    clear c0 c1 c2 c3 c4 c5 c6 hf5 hG4 hK4 hR4 hhs hc4 hS5'
    have hlen5 : (addN { B with sc := adv g3 } { nd0 with kind := 6, subs := [x] }).1.ns.length ≤ 100000 := by simp [addN]; omega
    generalize addN { B with sc := adv g3 } { nd0 with kind := 6, subs := [x] } = Y at *
    obtain ⟨C, x5⟩ := Y
    dsimp only at *
    have hc5 : NodeIs ((z59.setIfInBounds 0 (.int .i64 9)).setIfInBounds 261 (.slice (some ⟨w5.heap.size, 0, none⟩) 1 1)) { nd0 with kind := 9, subs := [x5] } (.slice (some ⟨w5.heap.size, 0, none⟩) 1 1) := (NodeIs.zero.setKind 9).setSubs [x5] _ _ _
    go_wp2_with fail
    refine (addOne x5 w5.heap.size hR5 rfl hc5 rfl (by (try dsimp only); omega)).mono ?_
    rintro e w8 ⟨rfl, nv8, U8, hR8, hS8⟩
    go_wp2
    go_ret
    exact ⟨by rw [HP.out, HREP.out]; rfl, nv8, U8, by rw [HP.out, HREP.out]; exact hR8, hS5.trans hS8⟩
  · by_cases h42 : pk s g3 = 42
    · have HREP : Hid (repM s (B, x) = addN { B with sc := adv g3 } { nd0 with kind := 7, subs := [x] }) := by
        unfold Hid; rw [HR3.out, show kindOf (pk s g3) = 7 by unfold kindOf; rw [if_neg h63, if_pos h42]]; rfl
      have q63 : ((pk s g3 : Int) == 63) = false := by simp; omega
      have q42 : ((pk s g3 : Int) == 42) = true := by simp; omega
      clear h63 h42
      have hlenB' : B.ns.length ≤ 100000 := by omega
      obtain ⟨c0, c1, c2, c3, c4, c5, c6⟩ := hG3.cells
      have hf5 := hG3.frozen 5
      have hG4 : Gis ((w3.drewN n4).setCell ⟨b, 5, none⟩ (.int .i64 ((g3.at_ : Int) + 1))) b s nv2 rv (adv g3) := (hG3.drewN n4).setAt _
      have hK4 : Kept (· = b) w2 ((w3.drewN n4).setCell ⟨b, 5, none⟩ (.int .i64 ((g3.at_ : Int) + 1))) := (hK3.drewN n4).setCell (fun _ => rfl) _
      have hR4 := hR2.only hK4 hG4
      have hhs : ((w3.drewN n4).setCell ⟨b, 5, none⟩ (.int .i64 ((g3.at_ : Int) + 1))).heap.size = w3.heap.size := by simp [World.setCell]
      have hc4 : NodeIs ((z59.setIfInBounds 0 (.int .i64 7)).setIfInBounds 261 (.slice (some ⟨w3.heap.size, 0, none⟩) 1 1)) { nd0 with kind := 7, subs := [x] } (.slice (some ⟨w3.heap.size, 0, none⟩) 1 1) := (NodeIs.zero.setKind 7).setSubs [x] _ _ _
      go_wp2_with fail
      refine (addOne x w3.heap.size hR4 hhs hc4 rfl (by dsimp only; omega)).mono ?_
      rintro e w5 ⟨rfl, nv5, U5, hR5, hS5'⟩
      have hS5 : Stp w.heap.size b nv nv5 U U5 w w5 := hS2.trans ((Stp.only hK4).trans hS5')
      clear c0 c1 c2 c3 c4 c5 c6 hf5 hG4 hK4 hR4 hhs hc4 hS5'
      have hlen5 : (addN { B with sc := adv g3 } { nd0 with kind := 7, subs := [x] }).1.ns.length ≤ 100000 := by simp [addN]; omega
      generalize addN { B with sc := adv g3 } { nd0 with kind := 7, subs := [x] } = Y at *
      obtain ⟨C, x5⟩ := Y
      dsimp only at *
      have hc5 : NodeIs ((z59.setIfInBounds 0 (.int .i64 9)).setIfInBounds 261 (.slice (some ⟨w5.heap.size, 0, none⟩) 1 1)) { nd0 with kind := 9, subs := [x5] } (.slice (some ⟨w5.heap.size, 0, none⟩) 1 1) := (NodeIs.zero.setKind 9).setSubs [x5] _ _ _
      go_wp2_with fail
      refine (addOne x5 w5.heap.size hR5 rfl hc5 rfl (by (try dsimp only); omega)).mono ?_
      rintro e w8 ⟨rfl, nv8, U8, hR8, hS8⟩
      go_wp2
      go_ret
      exact ⟨by rw [HP.out, HREP.out]; rfl, nv8, U8, by rw [HP.out, HREP.out]; exact hR8, hS5.trans hS8⟩
    · by_cases h43 : pk s g3 = 43
      · have HREP : Hid (repM s (B, x) = addN { B with sc := adv g3 } { nd0 with kind := 8, subs := [x] }) := by
          unfold Hid; rw [HR3.out, show kindOf (pk s g3) = 8 by unfold kindOf; rw [if_neg h63, if_neg h42, if_pos h43]]; rfl
        have q63 : ((pk s g3 : Int) == 63) = false := by simp; omega
        have q42 : ((pk s g3 : Int) == 42) = false := by simp; omega
        have q43 : ((pk s g3 : Int) == 43) = true := by simp; omega
        clear h63 h42 h43
        have hlenB' : B.ns.length ≤ 100000 := by omega
        obtain ⟨c0, c1, c2, c3, c4, c5, c6⟩ := hG3.cells
        have hf5 := hG3.frozen 5
        have hG4 : Gis ((w3.drewN n4).setCell ⟨b, 5, none⟩ (.int .i64 ((g3.at_ : Int) + 1))) b s nv2 rv (adv g3) := (hG3.drewN n4).setAt _
        have hK4 : Kept (· = b) w2 ((w3.drewN n4).setCell ⟨b, 5, none⟩ (.int .i64 ((g3.at_ : Int) + 1))) := (hK3.drewN n4).setCell (fun _ => rfl) _
        have hR4 := hR2.only hK4 hG4
        have hhs : ((w3.drewN n4).setCell ⟨b, 5, none⟩ (.int .i64 ((g3.at_ : Int) + 1))).heap.size = w3.heap.size := by simp [World.setCell]
        have hc4 : NodeIs ((z59.setIfInBounds 0 (.int .i64 8)).setIfInBounds 261 (.slice (some ⟨w3.heap.size, 0, none⟩) 1 1)) { nd0 with kind := 8, subs := [x] } (.slice (some ⟨w3.heap.size, 0, none⟩) 1 1) := (NodeIs.zero.setKind 8).setSubs [x] _ _ _
        go_wp2_with fail
        refine (addOne x w3.heap.size hR4 hhs hc4 rfl (by dsimp only; omega)).mono ?_
        rintro e w5 ⟨rfl, nv5, U5, hR5, hS5'⟩
        have hS5 : Stp w.heap.size b nv nv5 U U5 w w5 := hS2.trans ((Stp.only hK4).trans hS5')
        clear c0 c1 c2 c3 c4 c5 c6 hf5 hG4 hK4 hR4 hhs hc4 hS5'
        have hlen5 : (addN { B with sc := adv g3 } { nd0 with kind := 8, subs := [x] }).1.ns.length ≤ 100000 := by simp [addN]; omega
        generalize addN { B with sc := adv g3 } { nd0 with kind := 8, subs := [x] } = Y at *
        obtain ⟨C, x5⟩ := Y
        dsimp only at *
        have hc5 : NodeIs ((z59.setIfInBounds 0 (.int .i64 9)).setIfInBounds 261 (.slice (some ⟨w5.heap.size, 0, none⟩) 1 1)) { nd0 with kind := 9, subs := [x5] } (.slice (some ⟨w5.heap.size, 0, none⟩) 1 1) := (NodeIs.zero.setKind 9).setSubs [x5] _ _ _
        go_wp2_with fail
        refine (addOne x5 w5.heap.size hR5 rfl hc5 rfl (by (try dsimp only); omega)).mono ?_
        rintro e w8 ⟨rfl, nv8, U8, hR8, hS8⟩
        go_wp2
        go_ret
        exact ⟨by rw [HP.out, HREP.out]; rfl, nv8, U8, by rw [HP.out, HREP.out]; exact hR8, hS5.trans hS8⟩
      · have HREP : Hid (repM s (B, x) = ({ B with sc := g3 }, x)) := by
          unfold Hid; rw [HR3.out, show kindOf (pk s g3) = 0 by unfold kindOf; rw [if_neg h63, if_neg h42, if_neg h43]]; rfl
        have q63 : ((pk s g3 : Int) == 63) = false := by simp; omega
        have q42 : ((pk s g3 : Int) == 42) = false := by simp; omega
        have q43 : ((pk s g3 : Int) == 43) = false := by simp; omega
        clear h63 h42 h43
        have hlen5 : (B.ns).length ≤ 100000 := by omega
        have hR5 : RG (w3.drewN n4) base b s nv2 rv U2 { B with sc := g3 } := (hR2.only hK3 hG3).same n4
        have hS5 : Stp w.heap.size b nv nv2 U U2 w (w3.drewN n4) := hS2.trans (Stp.only (hK3.drewN n4))
        obtain ⟨nv5, hnv5⟩ : ∃ n, n = nv2 := ⟨_, rfl⟩
        rw [← hnv5] at hR5 hS5
        clear hnv5
        obtain ⟨U5, hU5⟩ : ∃ n, n = U2 := ⟨_, rfl⟩
        subst hU5
        obtain ⟨x5, hx5⟩ : ∃ n, n = x := ⟨_, rfl⟩
        subst hx5
        generalize hw5 : w3.drewN n4 = w5 at *
        clear hw5
        have hc5 : NodeIs ((z59.setIfInBounds 0 (.int .i64 9)).setIfInBounds 261 (.slice (some ⟨w5.heap.size, 0, none⟩) 1 1)) { nd0 with kind := 9, subs := [x5] } (.slice (some ⟨w5.heap.size, 0, none⟩) 1 1) := (NodeIs.zero.setKind 9).setSubs [x5] _ _ _
        go_wp2_with fail
        refine (addOne x5 w5.heap.size hR5 rfl hc5 rfl (by (try dsimp only); omega)).mono ?_
        rintro e w8 ⟨rfl, nv8, U8, hR8, hS8⟩
        go_wp2
        go_ret
        exact ⟨by rw [HP.out, HREP.out]; rfl, nv8, U8, by rw [HP.out, HREP.out]; exact hR8, hS5.trans hS8⟩

set_option maxRecDepth 100000 in
set_option maxHeartbeats 6400000 in
theorem item_10 {s : ByteArray} {ch : St → St × Nat} {d : Nat} (hgd : d = 0 ∨ Good s ch (d - 1)) (hpart : Does 57 s (partM s ch) d) (base b : Nat) (nv rv : Value) (U : Nat → Prop) (A : St) (w : World) (hR : RG w base b s nv rv U A) (hO : Ok s A) (hd : 5 ≤ A.sc.op + d) (h1 : sgB s A.sc 38 = false) (h2 : sgB s (sg s A.sc 38) 33 = true) :
    Calls Try.prog 48 #[.pointer (some ⟨b, 0, none⟩)] w fun e w' => e = .returned (.int .i64 ((itemM s ch A).2 : Int)) ∧ ∃ nv' U', RG w' base b s nv' rv U' (itemM s ch A).1 ∧ Stp w.heap.size b nv nv' U U' w w' := by
  have hs := hO.size
  obtain ⟨f0, t0, k0⟩ := aheadS_fs hO.iv
  have HP : Hid (itemM s ch A = aheadM 10 (repM s (partM s ch { A with sc := sg s (sg s A.sc 38) 33 }))) := by
    unfold Hid itemM aheadK aheadS; rw [h1, h2]; rfl
  have hOk1 : Ok s { A with sc := sg s (sg s A.sc 38) 33 } := by
    have := hO.sc f0 t0
    unfold aheadS at this
    rw [h1] at this; exact this
  have hd1 : 5 ≤ ({ A with sc := sg s (sg s A.sc 38) 33 } : St).sc.op + d := by
    have := f0.op
    unfold aheadS at this
    rw [h1] at this; simp only [Bool.false_eq_true, if_false] at this
    dsimp only; omega
  clear f0 t0 k0
  generalize itemM s ch A = r at *
  go_enter Try.func48, Try.ntmps48
  go_wp2_with fail
  refine (sign_any b s nv rv A.sc 38 _ hR.gis hs).mono ?_
  rintro e w1 ⟨rfl, hG1, hK1⟩
  rw [h1]
  go_wp2_with fail
  refine (sign_any b s nv rv (sg s A.sc 38) 33 _ hG1 hs).mono ?_
  rintro e w1' ⟨rfl, hG1', hK1'⟩
  rw [h2]
  replace hK1 := hK1.trans hK1'
  clear hG1 hK1' h1 h2
  have hG1 := hG1'
  clear hG1'
  generalize sg s (sg s A.sc 38) 33 = g1 at *
  go_wp2_with fail
  have hfc := part_fc hgd (A := { A with sc := g1 }) hOk1.iv hd1
  refine (hpart base b nv rv U { A with sc := g1 } _ (hR.only hK1 hG1) hOk1 hd1).mono ?_
  rintro e w2 ⟨rfl, nv2, U2, hR2, hS2'⟩
  have hS2 : Stp w.heap.size b nv nv2 U U2 w w2 := (Stp.only hK1).trans hS2'
  have hpt := hfc.pot'
  have hpt1 := hOk1.pt
  have hivB := hfc.iv
  generalize partM s ch { A with sc := g1 } = X at *
  obtain ⟨B, x⟩ := X
  dsimp only at *
  have hlenB : B.ns.length ≤ 3001 := by unfold Pt at hpt hpt1; dsimp only at *; omega
  go_wp2_with fail
  refine (blanks_any b s nv2 rv B.sc _ hR2.gis hs).mono ?_
  rintro e w3 ⟨rfl, hG3, hK3⟩
  have HR3 : Hid (repM s (B, x) = if kindOf (pk s (bl s B.sc)) > 0 then addN { B with sc := adv (bl s B.sc) } { nd0 with kind := kindOf (pk s (bl s B.sc)), subs := [x] } else ({ B with sc := bl s B.sc }, x)) := rfl
  have hat3 := hivB.bl.2
  generalize bl s B.sc = g3 at *
  go_wp2_with fail
  refine (peek_any b s nv2 rv g3 _ hG3 hs).mono ?_
  rintro e w4 ⟨rfl, n4, rfl⟩
  clear hpt hpt1 hivB hOk1 hfc hgd hpart
  by_cases h63 : pk s g3 = 63
  · have HREP : Hid (repM s (B, x) = addN { B with sc := adv g3 } { nd0 with kind := 6, subs := [x] }) := by
      unfold Hid; rw [HR3.out, show kindOf (pk s g3) = 6 by unfold kindOf; rw [if_pos h63]]; rfl
    have q63 : ((pk s g3 : Int) == 63) = true := by simp; omega
    clear h63
    have hlenB' : B.ns.length ≤ 100000 := by omega
    obtain ⟨c0, c1, c2, c3, c4, c5, c6⟩ := hG3.cells
    have hf5 := hG3.frozen 5
    have hG4 : Gis ((w3.drewN n4).setCell ⟨b, 5, none⟩ (.int .i64 ((g3.at_ : Int) + 1))) b s nv2 rv (adv g3) := (hG3.drewN n4).setAt _
    have hK4 : Kept (· = b) w2 ((w3.drewN n4).setCell ⟨b, 5, none⟩ (.int .i64 ((g3.at_ : Int) + 1))) := (hK3.drewN n4).setCell (fun _ => rfl) _
    have hR4 := hR2.only hK4 hG4
    have hhs : ((w3.drewN n4).setCell ⟨b, 5, none⟩ (.int .i64 ((g3.at_ : Int) + 1))).heap.size = w3.heap.size := by simp [World.setCell]
    have hc4 : NodeIs ((z59.setIfInBounds 0 (.int .i64 6)).setIfInBounds 261 (.slice (some ⟨w3.heap.size, 0, none⟩) 1 1)) { nd0 with kind := 6, subs := [x] } (.slice (some ⟨w3.heap.size, 0, none⟩) 1 1) := (NodeIs.zero.setKind 6).setSubs [x] _ _ _
    go_wp2_with fail
    refine (addOne x w3.heap.size hR4 hhs hc4 rfl (by dsimp only; omega)).mono ?_
    rintro e w5 ⟨rfl, nv5, U5, hR5, hS5'⟩
    have hS5 : Stp w.heap.size b nv nv5 U U5 w w5 := hS2.trans ((Stp.only hK4).trans hS5')
    clear c0 c1 c2 c3 c4 c5 c6 hf5 hG4 hK4 hR4 hhs hc4 hS5'
    have hlen5 : (addN { B with sc := adv g3 } { nd0 with kind := 6, subs := [x] }).1.ns.length ≤ 100000 := by simp [addN]; omega
    generalize addN { B with sc := adv g3 } { nd0 with kind := 6, subs := [x] } = Y at *
    obtain ⟨C, x5⟩ := Y
    dsimp only at *
    have hc5 : NodeIs ((z59.setIfInBounds 0 (.int .i64 10)).setIfInBounds 261 (.slice (some ⟨w5.heap.size, 0, none⟩) 1 1)) { nd0 with kind := 10, subs := [x5] } (.slice (some ⟨w5.heap.size, 0, none⟩) 1 1) := (NodeIs.zero.setKind 10).setSubs [x5] _ _ _
    go_wp2_with fail
    refine (addOne x5 w5.heap.size hR5 rfl hc5 rfl (by (try dsimp only); omega)).mono ?_
    rintro e w8 ⟨rfl, nv8, U8, hR8, hS8⟩
    go_wp2
    go_ret
    exact ⟨by rw [HP.out, HREP.out]; rfl, nv8, U8, by rw [HP.out, HREP.out]; exact hR8, hS5.trans hS8⟩
  · by_cases h42 : pk s g3 = 42
    · have HREP : Hid (repM s (B, x) = addN { B with sc := adv g3 } { nd0 with kind := 7, subs := [x] }) := by
        unfold Hid; rw [HR3.out, show kindOf (pk s g3) = 7 by unfold kindOf; rw [if_neg h63, if_pos h42]]; rfl
      have q63 : ((pk s g3 : Int) == 63) = false := by simp; omega
      have q42 : ((pk s g3 : Int) == 42) = true := by simp; omega
      clear h63 h42
      have hlenB' : B.ns.length ≤ 100000 := by omega
      obtain ⟨c0, c1, c2, c3, c4, c5, c6⟩ := hG3.cells
      have hf5 := hG3.frozen 5
      have hG4 : Gis ((w3.drewN n4).setCell ⟨b, 5, none⟩ (.int .i64 ((g3.at_ : Int) + 1))) b s nv2 rv (adv g3) := (hG3.drewN n4).setAt _
      have hK4 : Kept (· = b) w2 ((w3.drewN n4).setCell ⟨b, 5, none⟩ (.int .i64 ((g3.at_ : Int) + 1))) := (hK3.drewN n4).setCell (fun _ => rfl) _
      have hR4 := hR2.only hK4 hG4
      have hhs : ((w3.drewN n4).setCell ⟨b, 5, none⟩ (.int .i64 ((g3.at_ : Int) + 1))).heap.size = w3.heap.size := by simp [World.setCell]
      have hc4 : NodeIs ((z59.setIfInBounds 0 (.int .i64 7)).setIfInBounds 261 (.slice (some ⟨w3.heap.size, 0, none⟩) 1 1)) { nd0 with kind := 7, subs := [x] } (.slice (some ⟨w3.heap.size, 0, none⟩) 1 1) := (NodeIs.zero.setKind 7).setSubs [x] _ _ _
      go_wp2_with fail
      refine (addOne x w3.heap.size hR4 hhs hc4 rfl (by dsimp only; omega)).mono ?_
      rintro e w5 ⟨rfl, nv5, U5, hR5, hS5'⟩
      have hS5 : Stp w.heap.size b nv nv5 U U5 w w5 := hS2.trans ((Stp.only hK4).trans hS5')
      clear c0 c1 c2 c3 c4 c5 c6 hf5 hG4 hK4 hR4 hhs hc4 hS5'
      have hlen5 : (addN { B with sc := adv g3 } { nd0 with kind := 7, subs := [x] }).1.ns.length ≤ 100000 := by simp [addN]; omega
      generalize addN { B with sc := adv g3 } { nd0 with kind := 7, subs := [x] } = Y at *
      obtain ⟨C, x5⟩ := Y
      dsimp only at *
      have hc5 : NodeIs ((z59.setIfInBounds 0 (.int .i64 10)).setIfInBounds 261 (.slice (some ⟨w5.heap.size, 0, none⟩) 1 1)) { nd0 with kind := 10, subs := [x5] } (.slice (some ⟨w5.heap.size, 0, none⟩) 1 1) := (NodeIs.zero.setKind 10).setSubs [x5] _ _ _
      go_wp2_with fail
      refine (addOne x5 w5.heap.size hR5 rfl hc5 rfl (by (try dsimp only); omega)).mono ?_
      rintro e w8 ⟨rfl, nv8, U8, hR8, hS8⟩
      go_wp2
      go_ret
      exact ⟨by rw [HP.out, HREP.out]; rfl, nv8, U8, by rw [HP.out, HREP.out]; exact hR8, hS5.trans hS8⟩
    · by_cases h43 : pk s g3 = 43
      · have HREP : Hid (repM s (B, x) = addN { B with sc := adv g3 } { nd0 with kind := 8, subs := [x] }) := by
          unfold Hid; rw [HR3.out, show kindOf (pk s g3) = 8 by unfold kindOf; rw [if_neg h63, if_neg h42, if_pos h43]]; rfl
        have q63 : ((pk s g3 : Int) == 63) = false := by simp; omega
        have q42 : ((pk s g3 : Int) == 42) = false := by simp; omega
        have q43 : ((pk s g3 : Int) == 43) = true := by simp; omega
        clear h63 h42 h43
        have hlenB' : B.ns.length ≤ 100000 := by omega
        obtain ⟨c0, c1, c2, c3, c4, c5, c6⟩ := hG3.cells
        have hf5 := hG3.frozen 5
        have hG4 : Gis ((w3.drewN n4).setCell ⟨b, 5, none⟩ (.int .i64 ((g3.at_ : Int) + 1))) b s nv2 rv (adv g3) := (hG3.drewN n4).setAt _
        have hK4 : Kept (· = b) w2 ((w3.drewN n4).setCell ⟨b, 5, none⟩ (.int .i64 ((g3.at_ : Int) + 1))) := (hK3.drewN n4).setCell (fun _ => rfl) _
        have hR4 := hR2.only hK4 hG4
        have hhs : ((w3.drewN n4).setCell ⟨b, 5, none⟩ (.int .i64 ((g3.at_ : Int) + 1))).heap.size = w3.heap.size := by simp [World.setCell]
        have hc4 : NodeIs ((z59.setIfInBounds 0 (.int .i64 8)).setIfInBounds 261 (.slice (some ⟨w3.heap.size, 0, none⟩) 1 1)) { nd0 with kind := 8, subs := [x] } (.slice (some ⟨w3.heap.size, 0, none⟩) 1 1) := (NodeIs.zero.setKind 8).setSubs [x] _ _ _
        go_wp2_with fail
        refine (addOne x w3.heap.size hR4 hhs hc4 rfl (by dsimp only; omega)).mono ?_
        rintro e w5 ⟨rfl, nv5, U5, hR5, hS5'⟩
        have hS5 : Stp w.heap.size b nv nv5 U U5 w w5 := hS2.trans ((Stp.only hK4).trans hS5')
        clear c0 c1 c2 c3 c4 c5 c6 hf5 hG4 hK4 hR4 hhs hc4 hS5'
        have hlen5 : (addN { B with sc := adv g3 } { nd0 with kind := 8, subs := [x] }).1.ns.length ≤ 100000 := by simp [addN]; omega
        generalize addN { B with sc := adv g3 } { nd0 with kind := 8, subs := [x] } = Y at *
        obtain ⟨C, x5⟩ := Y
        dsimp only at *
        have hc5 : NodeIs ((z59.setIfInBounds 0 (.int .i64 10)).setIfInBounds 261 (.slice (some ⟨w5.heap.size, 0, none⟩) 1 1)) { nd0 with kind := 10, subs := [x5] } (.slice (some ⟨w5.heap.size, 0, none⟩) 1 1) := (NodeIs.zero.setKind 10).setSubs [x5] _ _ _
        go_wp2_with fail
        refine (addOne x5 w5.heap.size hR5 rfl hc5 rfl (by (try dsimp only); omega)).mono ?_
        rintro e w8 ⟨rfl, nv8, U8, hR8, hS8⟩
        go_wp2
        go_ret
        exact ⟨by rw [HP.out, HREP.out]; rfl, nv8, U8, by rw [HP.out, HREP.out]; exact hR8, hS5.trans hS8⟩
      · have HREP : Hid (repM s (B, x) = ({ B with sc := g3 }, x)) := by
          unfold Hid; rw [HR3.out, show kindOf (pk s g3) = 0 by unfold kindOf; rw [if_neg h63, if_neg h42, if_neg h43]]; rfl
        have q63 : ((pk s g3 : Int) == 63) = false := by simp; omega
        have q42 : ((pk s g3 : Int) == 42) = false := by simp; omega
        have q43 : ((pk s g3 : Int) == 43) = false := by simp; omega
        clear h63 h42 h43
        have hlen5 : (B.ns).length ≤ 100000 := by omega
        have hR5 : RG (w3.drewN n4) base b s nv2 rv U2 { B with sc := g3 } := (hR2.only hK3 hG3).same n4
        have hS5 : Stp w.heap.size b nv nv2 U U2 w (w3.drewN n4) := hS2.trans (Stp.only (hK3.drewN n4))
        obtain ⟨nv5, hnv5⟩ : ∃ n, n = nv2 := ⟨_, rfl⟩
        rw [← hnv5] at hR5 hS5
        clear hnv5
        obtain ⟨U5, hU5⟩ : ∃ n, n = U2 := ⟨_, rfl⟩
        subst hU5
        obtain ⟨x5, hx5⟩ : ∃ n, n = x := ⟨_, rfl⟩
        subst hx5
        generalize hw5 : w3.drewN n4 = w5 at *
        clear hw5
        have hc5 : NodeIs ((z59.setIfInBounds 0 (.int .i64 10)).setIfInBounds 261 (.slice (some ⟨w5.heap.size, 0, none⟩) 1 1)) { nd0 with kind := 10, subs := [x5] } (.slice (some ⟨w5.heap.size, 0, none⟩) 1 1) := (NodeIs.zero.setKind 10).setSubs [x5] _ _ _
        go_wp2_with fail
        refine (addOne x5 w5.heap.size hR5 rfl hc5 rfl (by (try dsimp only); omega)).mono ?_
        rintro e w8 ⟨rfl, nv8, U8, hR8, hS8⟩
        go_wp2
        go_ret
        exact ⟨by rw [HP.out, HREP.out]; rfl, nv8, U8, by rw [HP.out, HREP.out]; exact hR8, hS5.trans hS8⟩

set_option maxRecDepth 100000 in
set_option maxHeartbeats 6400000 in
theorem item_0 {s : ByteArray} {ch : St → St × Nat} {d : Nat} (hgd : d = 0 ∨ Good s ch (d - 1)) (hpart : Does 57 s (partM s ch) d) (base b : Nat) (nv rv : Value) (U : Nat → Prop) (A : St) (w : World) (hR : RG w base b s nv rv U A) (hO : Ok s A) (hd : 5 ≤ A.sc.op + d) (h1 : sgB s A.sc 38 = false) (h2 : sgB s (sg s A.sc 38) 33 = false) :
    Calls Try.prog 48 #[.pointer (some ⟨b, 0, none⟩)] w fun e w' => e = .returned (.int .i64 ((itemM s ch A).2 : Int)) ∧ ∃ nv' U', RG w' base b s nv' rv U' (itemM s ch A).1 ∧ Stp w.heap.size b nv nv' U U' w w' := by
  have hs := hO.size
  obtain ⟨f0, t0, k0⟩ := aheadS_fs hO.iv
  have HP : Hid (itemM s ch A = aheadM 0 (repM s (partM s ch { A with sc := sg s (sg s A.sc 38) 33 }))) := by
    unfold Hid itemM aheadK aheadS; rw [h1, h2]; rfl
  have hOk1 : Ok s { A with sc := sg s (sg s A.sc 38) 33 } := by
    have := hO.sc f0 t0
    unfold aheadS at this
    rw [h1] at this; exact this
  have hd1 : 5 ≤ ({ A with sc := sg s (sg s A.sc 38) 33 } : St).sc.op + d := by
    have := f0.op
    unfold aheadS at this
    rw [h1] at this; simp only [Bool.false_eq_true, if_false] at this
    dsimp only; omega
  clear f0 t0 k0
  generalize itemM s ch A = r at *
  go_enter Try.func48, Try.ntmps48
  go_wp2_with fail
  refine (sign_any b s nv rv A.sc 38 _ hR.gis hs).mono ?_
  rintro e w1 ⟨rfl, hG1, hK1⟩
  rw [h1]
  go_wp2_with fail
  refine (sign_any b s nv rv (sg s A.sc 38) 33 _ hG1 hs).mono ?_
  rintro e w1' ⟨rfl, hG1', hK1'⟩
  rw [h2]
  replace hK1 := hK1.trans hK1'
  clear hG1 hK1' h1 h2
  have hG1 := hG1'
  clear hG1'
  generalize sg s (sg s A.sc 38) 33 = g1 at *
  go_wp2_with fail
  have hfc := part_fc hgd (A := { A with sc := g1 }) hOk1.iv hd1
  refine (hpart base b nv rv U { A with sc := g1 } _ (hR.only hK1 hG1) hOk1 hd1).mono ?_
  rintro e w2 ⟨rfl, nv2, U2, hR2, hS2'⟩
  have hS2 : Stp w.heap.size b nv nv2 U U2 w w2 := (Stp.only hK1).trans hS2'
  have hpt := hfc.pot'
  have hpt1 := hOk1.pt
  have hivB := hfc.iv
  generalize partM s ch { A with sc := g1 } = X at *
  obtain ⟨B, x⟩ := X
  dsimp only at *
  have hlenB : B.ns.length ≤ 3001 := by unfold Pt at hpt hpt1; dsimp only at *; omega
  go_wp2_with fail
  refine (blanks_any b s nv2 rv B.sc _ hR2.gis hs).mono ?_
  rintro e w3 ⟨rfl, hG3, hK3⟩
  have HR3 : Hid (repM s (B, x) = if kindOf (pk s (bl s B.sc)) > 0 then addN { B with sc := adv (bl s B.sc) } { nd0 with kind := kindOf (pk s (bl s B.sc)), subs := [x] } else ({ B with sc := bl s B.sc }, x)) := rfl
  have hat3 := hivB.bl.2
  generalize bl s B.sc = g3 at *
  go_wp2_with fail
  refine (peek_any b s nv2 rv g3 _ hG3 hs).mono ?_
  rintro e w4 ⟨rfl, n4, rfl⟩
  clear hpt hpt1 hivB hOk1 hfc hgd hpart
  by_cases h63 : pk s g3 = 63
  · have HREP : Hid (repM s (B, x) = addN { B with sc := adv g3 } { nd0 with kind := 6, subs := [x] }) := by
      unfold Hid; rw [HR3.out, show kindOf (pk s g3) = 6 by unfold kindOf; rw [if_pos h63]]; rfl
    have q63 : ((pk s g3 : Int) == 63) = true := by simp; omega
    clear h63
    have hlenB' : B.ns.length ≤ 100000 := by omega
    obtain ⟨c0, c1, c2, c3, c4, c5, c6⟩ := hG3.cells
    have hf5 := hG3.frozen 5
    have hG4 : Gis ((w3.drewN n4).setCell ⟨b, 5, none⟩ (.int .i64 ((g3.at_ : Int) + 1))) b s nv2 rv (adv g3) := (hG3.drewN n4).setAt _
    have hK4 : Kept (· = b) w2 ((w3.drewN n4).setCell ⟨b, 5, none⟩ (.int .i64 ((g3.at_ : Int) + 1))) := (hK3.drewN n4).setCell (fun _ => rfl) _
    have hR4 := hR2.only hK4 hG4
    have hhs : ((w3.drewN n4).setCell ⟨b, 5, none⟩ (.int .i64 ((g3.at_ : Int) + 1))).heap.size = w3.heap.size := by simp [World.setCell]
    have hc4 : NodeIs ((z59.setIfInBounds 0 (.int .i64 6)).setIfInBounds 261 (.slice (some ⟨w3.heap.size, 0, none⟩) 1 1)) { nd0 with kind := 6, subs := [x] } (.slice (some ⟨w3.heap.size, 0, none⟩) 1 1) := (NodeIs.zero.setKind 6).setSubs [x] _ _ _
    go_wp2_with fail
    refine (addOne x w3.heap.size hR4 hhs hc4 rfl (by dsimp only; omega)).mono ?_
    rintro e w5 ⟨rfl, nv5, U5, hR5, hS5'⟩
    have hS5 : Stp w.heap.size b nv nv5 U U5 w w5 := hS2.trans ((Stp.only hK4).trans hS5')
    clear c0 c1 c2 c3 c4 c5 c6 hf5 hG4 hK4 hR4 hhs hc4 hS5'
    have hlen5 : (addN { B with sc := adv g3 } { nd0 with kind := 6, subs := [x] }).1.ns.length ≤ 100000 := by simp [addN]; omega
    generalize addN { B with sc := adv g3 } { nd0 with kind := 6, subs := [x] } = Y at *
    obtain ⟨C, x5⟩ := Y
    dsimp only at *
    go_wp2
    go_ret
    exact ⟨by rw [HP.out, HREP.out]; rfl, nv5, U5, by rw [HP.out, HREP.out]; exact hR5, hS5⟩
  · by_cases h42 : pk s g3 = 42
    · have HREP : Hid (repM s (B, x) = addN { B with sc := adv g3 } { nd0 with kind := 7, subs := [x] }) := by
        unfold Hid; rw [HR3.out, show kindOf (pk s g3) = 7 by unfold kindOf; rw [if_neg h63, if_pos h42]]; rfl
      have q63 : ((pk s g3 : Int) == 63) = false := by simp; omega
      have q42 : ((pk s g3 : Int) == 42) = true := by simp; omega
      clear h63 h42
      have hlenB' : B.ns.length ≤ 100000 := by omega
      obtain ⟨c0, c1, c2, c3, c4, c5, c6⟩ := hG3.cells
      have hf5 := hG3.frozen 5
      have hG4 : Gis ((w3.drewN n4).setCell ⟨b, 5, none⟩ (.int .i64 ((g3.at_ : Int) + 1))) b s nv2 rv (adv g3) := (hG3.drewN n4).setAt _
      have hK4 : Kept (· = b) w2 ((w3.drewN n4).setCell ⟨b, 5, none⟩ (.int .i64 ((g3.at_ : Int) + 1))) := (hK3.drewN n4).setCell (fun _ => rfl) _
      have hR4 := hR2.only hK4 hG4
      have hhs : ((w3.drewN n4).setCell ⟨b, 5, none⟩ (.int .i64 ((g3.at_ : Int) + 1))).heap.size = w3.heap.size := by simp [World.setCell]
      have hc4 : NodeIs ((z59.setIfInBounds 0 (.int .i64 7)).setIfInBounds 261 (.slice (some ⟨w3.heap.size, 0, none⟩) 1 1)) { nd0 with kind := 7, subs := [x] } (.slice (some ⟨w3.heap.size, 0, none⟩) 1 1) := (NodeIs.zero.setKind 7).setSubs [x] _ _ _
      go_wp2_with fail
      refine (addOne x w3.heap.size hR4 hhs hc4 rfl (by dsimp only; omega)).mono ?_
      rintro e w5 ⟨rfl, nv5, U5, hR5, hS5'⟩
      have hS5 : Stp w.heap.size b nv nv5 U U5 w w5 := hS2.trans ((Stp.only hK4).trans hS5')
      clear c0 c1 c2 c3 c4 c5 c6 hf5 hG4 hK4 hR4 hhs hc4 hS5'
      have hlen5 : (addN { B with sc := adv g3 } { nd0 with kind := 7, subs := [x] }).1.ns.length ≤ 100000 := by simp [addN]; omega
      generalize addN { B with sc := adv g3 } { nd0 with kind := 7, subs := [x] } = Y at *
      obtain ⟨C, x5⟩ := Y
      dsimp only at *
      go_wp2
      go_ret
      exact ⟨by rw [HP.out, HREP.out]; rfl, nv5, U5, by rw [HP.out, HREP.out]; exact hR5, hS5⟩
    · by_cases h43 : pk s g3 = 43
      · have HREP : Hid (repM s (B, x) = addN { B with sc := adv g3 } { nd0 with kind := 8, subs := [x] }) := by
          unfold Hid; rw [HR3.out, show kindOf (pk s g3) = 8 by unfold kindOf; rw [if_neg h63, if_neg h42, if_pos h43]]; rfl
        have q63 : ((pk s g3 : Int) == 63) = false := by simp; omega
        have q42 : ((pk s g3 : Int) == 42) = false := by simp; omega
        have q43 : ((pk s g3 : Int) == 43) = true := by simp; omega
        clear h63 h42 h43
        have hlenB' : B.ns.length ≤ 100000 := by omega
        obtain ⟨c0, c1, c2, c3, c4, c5, c6⟩ := hG3.cells
        have hf5 := hG3.frozen 5
        have hG4 : Gis ((w3.drewN n4).setCell ⟨b, 5, none⟩ (.int .i64 ((g3.at_ : Int) + 1))) b s nv2 rv (adv g3) := (hG3.drewN n4).setAt _
        have hK4 : Kept (· = b) w2 ((w3.drewN n4).setCell ⟨b, 5, none⟩ (.int .i64 ((g3.at_ : Int) + 1))) := (hK3.drewN n4).setCell (fun _ => rfl) _
        have hR4 := hR2.only hK4 hG4
        have hhs : ((w3.drewN n4).setCell ⟨b, 5, none⟩ (.int .i64 ((g3.at_ : Int) + 1))).heap.size = w3.heap.size := by simp [World.setCell]
        have hc4 : NodeIs ((z59.setIfInBounds 0 (.int .i64 8)).setIfInBounds 261 (.slice (some ⟨w3.heap.size, 0, none⟩) 1 1)) { nd0 with kind := 8, subs := [x] } (.slice (some ⟨w3.heap.size, 0, none⟩) 1 1) := (NodeIs.zero.setKind 8).setSubs [x] _ _ _
        go_wp2_with fail
        refine (addOne x w3.heap.size hR4 hhs hc4 rfl (by dsimp only; omega)).mono ?_
        rintro e w5 ⟨rfl, nv5, U5, hR5, hS5'⟩
        have hS5 : Stp w.heap.size b nv nv5 U U5 w w5 := hS2.trans ((Stp.only hK4).trans hS5')
        clear c0 c1 c2 c3 c4 c5 c6 hf5 hG4 hK4 hR4 hhs hc4 hS5'
        have hlen5 : (addN { B with sc := adv g3 } { nd0 with kind := 8, subs := [x] }).1.ns.length ≤ 100000 := by simp [addN]; omega
        generalize addN { B with sc := adv g3 } { nd0 with kind := 8, subs := [x] } = Y at *
        obtain ⟨C, x5⟩ := Y
        dsimp only at *
        go_wp2
        go_ret
        exact ⟨by rw [HP.out, HREP.out]; rfl, nv5, U5, by rw [HP.out, HREP.out]; exact hR5, hS5⟩
      · have HREP : Hid (repM s (B, x) = ({ B with sc := g3 }, x)) := by
          unfold Hid; rw [HR3.out, show kindOf (pk s g3) = 0 by unfold kindOf; rw [if_neg h63, if_neg h42, if_neg h43]]; rfl
        have q63 : ((pk s g3 : Int) == 63) = false := by simp; omega
        have q42 : ((pk s g3 : Int) == 42) = false := by simp; omega
        have q43 : ((pk s g3 : Int) == 43) = false := by simp; omega
        clear h63 h42 h43
        have hlen5 : (B.ns).length ≤ 100000 := by omega
        have hR5 : RG (w3.drewN n4) base b s nv2 rv U2 { B with sc := g3 } := (hR2.only hK3 hG3).same n4
        have hS5 : Stp w.heap.size b nv nv2 U U2 w (w3.drewN n4) := hS2.trans (Stp.only (hK3.drewN n4))
        obtain ⟨nv5, hnv5⟩ : ∃ n, n = nv2 := ⟨_, rfl⟩
        rw [← hnv5] at hR5 hS5
        clear hnv5
        obtain ⟨U5, hU5⟩ : ∃ n, n = U2 := ⟨_, rfl⟩
        subst hU5
        obtain ⟨x5, hx5⟩ : ∃ n, n = x := ⟨_, rfl⟩
        subst hx5
        generalize hw5 : w3.drewN n4 = w5 at *
        clear hw5
        go_wp2
        go_ret
        exact ⟨by rw [HP.out, HREP.out]; rfl, nv5, U5, by rw [HP.out, HREP.out]; exact hR5, hS5⟩

theorem item_does {s : ByteArray} {ch : St → St × Nat} {d : Nat} (hgd : d = 0 ∨ Good s ch (d - 1)) (hpart : Does 57 s (partM s ch) d) : Does 48 s (itemM s ch) d := by
  intro base b nv rv U A w hR hO hd
  cases h1 : sgB s A.sc 38
  · cases h2 : sgB s (sg s A.sc 38) 33
    · exact item_0 hgd hpart base b nv rv U A w hR hO hd h1 h2
    · exact item_10 hgd hpart base b nv rv U A w hR hO hd h1 h2
  · exact item_9 hgd hpart base b nv rv U A w hR hO hd h1

end Go.Proofs.Ytagklnaaoclmhaa
