import Derived.Test.YtagklnaaoclmhaaRefN
set_option linter.unusedSimpArgs false
set_option linter.unusedVariables false
namespace Go.Proofs.Ytagklnaaoclmhaa
open Go.RowKit
attribute [local go_sem ↓] exec_load59 exec_alloc59 exec_store59 exec_build59 exec_buildSlice36
attribute [local go_sem] load59At_ptr load59Of_some store59At_ptr store59Of_some build59_nil build59_kind build59_term build59_name build59_subs buildSlice36_some objAt_drew objAt_drewN objAt_new objAt_old

/-- What is asked of a state ahead of a call. -/
structure Ok (s : ByteArray) (A : St) : Prop where
  iv : Iv s A.sc
  t : A.sc.t ≤ A.ns.length
  pt : Pt s A ≤ 3000
  op : A.sc.op ≤ 5
  size : s.size ≤ 400
theorem Ok.at_ {s : ByteArray} {A : St} (h : Ok s A) : A.sc.at_ ≤ 401 := by have := h.iv.2; have := h.size; omega
theorem Ok.len {s : ByteArray} {A : St} (h : Ok s A) : A.ns.length ≤ 3000 := by have := h.pt; unfold Pt at this; omega

/-- A call that does as f. -/
def Does (F : Nat) (s : ByteArray) (f : St → St × Nat) (d : Nat) : Prop := ∀ (base b : Nat) (nv rv : Value) (U : Nat → Prop) (A : St) (w : World), RG w base b s nv rv U A → Ok s A → 5 ≤ A.sc.op + d →
  Calls Try.prog F #[.pointer (some ⟨b, 0, none⟩)] w fun e w' => e = .returned (.int .i64 ((f A).2 : Int)) ∧ ∃ nv' U', RG w' base b s nv' rv U' (f A).1 ∧ Stp w.heap.size b nv nv' U U' w w'

theorem notLetter {c : Nat} (h : letterB c = false) : ¬ (97 ≤ c ∧ c ≤ 122) := by unfold letterB at h; simp at h; omega

set_option maxRecDepth 100000 in
set_option maxHeartbeats 1600000 in
theorem part_name (s : ByteArray) (ch : St → St × Nat) (base b : Nat) (nv rv : Value) (U : Nat → Prop) (A : St) (w : World) (hR : RG w base b s nv rv U A) (hO : Ok s A) (hl : letterB (pk s (bl s A.sc)) = true) :
    Calls Try.prog 57 #[.pointer (some ⟨b, 0, none⟩)] w fun e w' => e = .returned (.int .i64 ((partM s ch A).2 : Int)) ∧ ∃ nv' U', RG w' base b s nv' rv U' (partM s ch A).1 ∧ Stp w.heap.size b nv nv' U U' w w' := by
  have hlen := hO.len
  have hs := hO.size
  have HP : Hid (partM s ch A = addN { A with sc := (word s (bl s A.sc)).2 } { nd0 with kind := 3, name := (word s (bl s A.sc)).1, at_ := (bl s A.sc).at_ }) := by
    unfold Hid partM; rw [hl]; rfl
  have hat1 : (bl s A.sc).at_ ≤ 10000 := by have := bl_at_le s A.sc; have := hO.at_; omega
  generalize partM s ch A = r at *
  go_enter Try.func57, Try.ntmps57
  go_wp2_with fail
  refine (blanks_any b s nv rv A.sc _ hR.gis hs).mono ?_
  rintro e w1 ⟨rfl, hG1, hK1⟩
  generalize bl s A.sc = g1 at *
  go_wp2_with fail
  refine (peek_any b s nv rv g1 _ hG1 hs).mono ?_
  rintro e w2 ⟨rfl, n2, rfl⟩
  go_wp2_with fail
  refine (letter_any _ _).mono ?_
  rintro e w3 ⟨rfl, rfl⟩
  rw [hl]
  obtain ⟨c0, c1, c2, c3, c4, c5, c6⟩ := hG1.cells
  go_wp2_with fail
  refine (word_any b s nv rv g1 _ (hG1.drewN n2) hs hat1).mono ?_
  rintro e w4 ⟨rfl, hG4, hK4⟩
  have hK : Kept (· = b) w w4 := (hK1.drewN n2).trans hK4
  have hR4 := hR.only hK hG4
  generalize word s g1 = wd1 at *
  obtain ⟨x, g4⟩ := wd1
  dsimp only at *
  have hc : NodeIs (((z59.setIfInBounds 0 (.int .i64 3)).setIfInBounds 259 (.string (ba x))).setIfInBounds 260 (.int .i64 (g1.at_ : Int))) { nd0 with kind := 3, name := x, at_ := g1.at_ } (.slice none 0 0) := ((NodeIs.zero.setKind 3).setName x).setAt g1.at_
  clear c0 c1 c2 c3 c4 c5 c6
  go_wp2_with fail
  refine (addR hR4 hc rfl (by dsimp only; omega)).mono ?_
  rintro e w5 ⟨rfl, nv', U', hR5, hS5⟩
  go_wp2
  go_ret
  exact ⟨by rw [HP.out]; rfl, nv', U', by rw [HP.out]; exact hR5, (Stp.only hK).trans hS5⟩


set_option maxRecDepth 100000 in
set_option maxHeartbeats 3200000 in
theorem part_dot (s : ByteArray) (ch : St → St × Nat) (base b : Nat) (nv rv : Value) (U : Nat → Prop) (A : St) (w : World) (hR : RG w base b s nv rv U A) (hO : Ok s A) (h46 : pk s (bl s A.sc) = 46) :
    Calls Try.prog 57 #[.pointer (some ⟨b, 0, none⟩)] w fun e w' => e = .returned (.int .i64 ((partM s ch A).2 : Int)) ∧ ∃ nv' U', RG w' base b s nv' rv U' (partM s ch A).1 ∧ Stp w.heap.size b nv nv' U U' w w' := by
  have hlen := hO.len
  have hs := hO.size
  have htt := hO.t
  have hbt := bl_t s A.sc
  have hbo := bl_op s A.sc
  have hiv1 := hO.iv.bl
  have hl : letterB (pk s (bl s A.sc)) = false := by rw [h46]; decide
  have HP : Hid (partM s ch A = addN { A with sc := tm (bl s A.sc) } { nd0 with kind := 2, term := (bl s A.sc).t }) := by
    unfold Hid partM; rw [hl, if_neg (by decide), if_pos h46]
  have H46 := hide h46
  clear h46
  generalize partM s ch A = r at *
  go_enter Try.func57, Try.ntmps57
  go_wp2_with fail
  refine (blanks_any b s nv rv A.sc _ hR.gis hs).mono ?_
  rintro e w1 ⟨rfl, hG1, hK1⟩
  generalize bl s A.sc = g1 at *
  go_wp2_with fail
  refine (peek_any b s nv rv g1 _ hG1 hs).mono ?_
  rintro e w2 ⟨rfl, n2, rfl⟩
  go_wp2_with fail
  refine (letter_any _ _).mono ?_
  rintro e w3 ⟨rfl, rfl⟩
  rw [hl]
  have hK2 : Kept (· = b) w (w1.drewN n2) := hK1.drewN n2
  have hG2 := hG1.drewN n2
  generalize w1.drewN n2 = w2 at *
  clear hG1 hK1
  have q46 : ((pk s g1 : Int) == 46) = true := by have := H46.out; simp; omega
  have Hbt := hide hbt
  clear hbt hbo
  go_wp2_with fail
  refine (terminal_any b s nv rv g1 _ hG2 (by rw [Hbt.out]; omega) (by have := hiv1.2; omega)).mono ?_
  rintro e w4 ⟨rfl, hG4, hK4⟩
  have hK : Kept (· = b) w w4 := hK2.trans hK4
  have hR4 := hR.only hK hG4
  have hc : NodeIs ((z59.setIfInBounds 0 (.int .i64 2)).setIfInBounds 258 (.int .i64 (g1.t : Int))) { nd0 with kind := 2, term := g1.t } (.slice none 0 0) := (NodeIs.zero.setKind 2).setTerm g1.t
  go_wp2_with fail
  refine (addR hR4 hc rfl (by dsimp only; omega)).mono ?_
  rintro e w5 ⟨rfl, nv', U', hR5, hS5⟩
  go_wp2
  go_ret
  exact ⟨by rw [HP.out]; rfl, nv', U', by rw [HP.out]; exact hR5, (Stp.only hK).trans hS5⟩

set_option maxRecDepth 100000 in
set_option maxHeartbeats 3200000 in
theorem part_bad (s : ByteArray) (ch : St → St × Nat) (base b : Nat) (nv rv : Value) (U : Nat → Prop) (A : St) (w : World) (hR : RG w base b s nv rv U A) (hO : Ok s A) (hl : letterB (pk s (bl s A.sc)) = false) (h46 : pk s (bl s A.sc) ≠ 46) (h39 : pk s (bl s A.sc) ≠ 39) (h91 : pk s (bl s A.sc) ≠ 91) (h40 : ¬ (pk s (bl s A.sc) = 40 ∧ (bl s A.sc).op < 5)) :
    Calls Try.prog 57 #[.pointer (some ⟨b, 0, none⟩)] w fun e w' => e = .returned (.int .i64 ((partM s ch A).2 : Int)) ∧ ∃ nv' U', RG w' base b s nv' rv U' (partM s ch A).1 ∧ Stp w.heap.size b nv nv' U U' w w' := by
  have hlen := hO.len
  have hs := hO.size
  have htt := hO.t
  have hbt := bl_t s A.sc
  have hbo := bl_op s A.sc
  have hiv1 := hO.iv.bl
  have HP : Hid (partM s ch A = addN { A with sc := wr (bl s A.sc) } nd0) := by
    unfold Hid partM; rw [hl, if_neg (by decide), if_neg h46, if_neg h39, if_neg h91, if_neg h40]
  generalize partM s ch A = r at *
  go_enter Try.func57, Try.ntmps57
  go_wp2_with fail
  refine (blanks_any b s nv rv A.sc _ hR.gis hs).mono ?_
  rintro e w1 ⟨rfl, hG1, hK1⟩
  generalize bl s A.sc = g1 at *
  go_wp2_with fail
  refine (peek_any b s nv rv g1 _ hG1 hs).mono ?_
  rintro e w2 ⟨rfl, n2, rfl⟩
  go_wp2_with fail
  refine (letter_any _ _).mono ?_
  rintro e w3 ⟨rfl, rfl⟩
  rw [hl]
  have hK2 : Kept (· = b) w (w1.drewN n2) := hK1.drewN n2
  have hG2 := hG1.drewN n2
  generalize w1.drewN n2 = w2 at *
  clear hG1 hK1
  have q46 : ((pk s g1 : Int) == 46) = false := by simp; omega
  have q39 : ((pk s g1 : Int) == 39) = false := by simp; omega
  have q91 : ((pk s g1 : Int) == 91) = false := by simp; omega
  clear hbt hbo h46 h39 h91
  obtain ⟨c0, c1, c2, c3, c4, c5, c6⟩ := hG2.cells
  have hc : NodeIs z59 nd0 (.slice none 0 0) := NodeIs.zero
  by_cases h40' : pk s g1 = 40
  · have q40 : ((pk s g1 : Int) == 40) = true := by simp; omega
    have hop : ¬ g1.op < 5 := fun h => h40 ⟨h40', h⟩
    have q5 : decide ((g1.op : Int) < 5) = false := by simp; omega
    clear h40 h40'
    go_wp2_with fail
    refine (wrong_any b s nv rv g1 _ hG2).mono ?_
    rintro e w4 ⟨rfl, hG4, hK4⟩
    have hK : Kept (· = b) w w4 := hK2.trans hK4
    have hR4 := hR.only hK hG4
    go_wp2_with fail
    refine (addR hR4 hc rfl (by dsimp only; omega)).mono ?_
    rintro e w5 ⟨rfl, nv', U', hR5, hS5⟩
    go_wp2
    go_ret
    exact ⟨by rw [HP.out]; rfl, nv', U', by rw [HP.out]; exact hR5, (Stp.only hK).trans hS5⟩
  · have q40 : ((pk s g1 : Int) == 40) = false := by simp; omega
    clear h40 h40'
    go_wp2_with fail
    refine (wrong_any b s nv rv g1 _ hG2).mono ?_
    rintro e w4 ⟨rfl, hG4, hK4⟩
    have hK : Kept (· = b) w w4 := hK2.trans hK4
    have hR4 := hR.only hK hG4
    go_wp2_with fail
    refine (addR hR4 hc rfl (by dsimp only; omega)).mono ?_
    rintro e w5 ⟨rfl, nv', U', hR5, hS5⟩
    go_wp2
    go_ret
    exact ⟨by rw [HP.out]; rfl, nv', U', by rw [HP.out]; exact hR5, (Stp.only hK).trans hS5⟩

set_option maxRecDepth 100000 in
set_option maxHeartbeats 3200000 in
theorem part_open (s : ByteArray) (ch : St → St × Nat) (base b : Nat) (nv rv : Value) (U : Nat → Prop) (A : St) (w : World) (hR : RG w base b s nv rv U A) (hO : Ok s A) (h40 : pk s (bl s A.sc) = 40) (hop : (bl s A.sc).op < 5) {d : Nat} (hd : 5 ≤ A.sc.op + d) (hch : Does 19 s ch (d - 1)) (hgd : Good s ch (d - 1)) :
    Calls Try.prog 57 #[.pointer (some ⟨b, 0, none⟩)] w fun e w' => e = .returned (.int .i64 ((partM s ch A).2 : Int)) ∧ ∃ nv' U', RG w' base b s nv' rv U' (partM s ch A).1 ∧ Stp w.heap.size b nv nv' U U' w w' := by
  have hlen := hO.len
  have hs := hO.size
  have htt := hO.t
  have hbt := bl_t s A.sc
  have hbo := bl_op s A.sc
  have hiv1 := hO.iv.bl
  have hl : letterB (pk s (bl s A.sc)) = false := by rw [h40]; decide
  have HP : Hid (partM s ch A = ({ (ch { A with sc := opn (bl s A.sc) }).1 with sc := shut (mu s (ch { A with sc := opn (bl s A.sc) }).1.sc 41) }, (ch { A with sc := opn (bl s A.sc) }).2)) := by
    unfold Hid partM; rw [hl, if_neg (by decide), if_neg (by omega), if_neg (by omega), if_neg (by omega), if_pos ⟨h40, hop⟩]
  obtain ⟨p1, p2, p3⟩ := pk_pos (s := s) (g := bl s A.sc) (by omega)
  clear p3
  have hgood : A.sc.bad < 0 := by rw [bl_bad] at p1; exact p1
  have hgeb := bl_ge s A.sc
  have H40 := hide h40
  clear h40
  generalize partM s ch A = r at *
  go_enter Try.func57, Try.ntmps57
  go_wp2_with fail
  refine (blanks_any b s nv rv A.sc _ hR.gis hs).mono ?_
  rintro e w1 ⟨rfl, hG1, hK1⟩
  generalize bl s A.sc = g1 at *
  go_wp2_with fail
  refine (peek_any b s nv rv g1 _ hG1 hs).mono ?_
  rintro e w2 ⟨rfl, n2, rfl⟩
  go_wp2_with fail
  refine (letter_any _ _).mono ?_
  rintro e w3 ⟨rfl, rfl⟩
  rw [hl]
  have hK2 : Kept (· = b) w (w1.drewN n2) := hK1.drewN n2
  have hG2 := hG1.drewN n2
  generalize w1.drewN n2 = w2 at *
  clear hG1 hK1
  have q46 : ((pk s g1 : Int) == 46) = false := by have := H40.out; simp; omega
  have q39 : ((pk s g1 : Int) == 39) = false := by have := H40.out; simp; omega
  have q91 : ((pk s g1 : Int) == 91) = false := by have := H40.out; simp; omega
  have q40 : ((pk s g1 : Int) == 40) = true := by have := H40.out; simp; omega
  have q5 : decide ((g1.op : Int) < 5) = true := by simp; omega
  have hio : Iv s (opn g1) := ⟨fun _ => by simp [opn]; omega, by simp [opn]; omega⟩
  have hOk : Ok s { A with sc := opn g1 } := by
    refine ⟨hio, by dsimp only [opn]; omega, ?_, by dsimp only [opn]; omega, hs⟩
    have hr := rest_lt (s := s) (g := A.sc) (g' := opn g1) hO.iv hgood (fun _ => by simp [opn]; omega)
    have := hO.pt
    unfold Pt at *
    dsimp only
    omega
  have hd' : 5 ≤ (opn g1).op + (d - 1) := by dsimp only [opn]; omega
  have hfc := hgd { A with sc := opn g1 } hio hd'
  obtain ⟨c0, c1, c2, c3, c4, c5, c6⟩ := hG2.cells
  have hf5 := hG2.frozen 5
  have hf6 := hG2.frozen 6
  have hat1 := hio.2
  dsimp only [opn] at hat1
  have Hbo := hide hbo
  clear hbt hbo
  go_wp2_with fail
  have hG3 : Gis ((w2.setCell ⟨b, 5, none⟩ (.int .i64 ((g1.at_ : Int) + 1))).setCell ⟨b, 6, none⟩ (.int .i64 ((g1.op : Int) + 1))) b s nv rv (opn g1) := (hG2.setAt _).setOp _
  have hK3 : Kept (· = b) w ((w2.setCell ⟨b, 5, none⟩ (.int .i64 ((g1.at_ : Int) + 1))).setCell ⟨b, 6, none⟩ (.int .i64 ((g1.op : Int) + 1))) := (hK2.setCell (fun _ => rfl) _).setCell (fun _ => rfl) _
  refine (hch base b nv rv U { A with sc := opn g1 } _ (hR.only hK3 hG3) hOk hd').mono ?_
  rintro e w4 ⟨rfl, nv4, U4, hR4, hS4⟩
  have hS : Stp w.heap.size b nv nv4 U U4 w w4 := (Stp.only hK3).trans hS4
  generalize ch { A with sc := opn g1 } = X at *
  obtain ⟨B, x⟩ := X
  dsimp only at *
  go_wp2_with fail
  refine (must_any b s nv4 rv B.sc 41 _ hR4.gis hs).mono ?_
  rintro e w5 ⟨rfl, hG5, hK5⟩
  have hop5 : 1 ≤ (mu s B.sc 41).op ∧ (mu s B.sc 41).op ≤ 6 := by
    rw [mu_op]; have := hfc.op; dsimp only [opn] at this; omega
  have hR5 := hR4.only hK5 hG5
  generalize mu s B.sc 41 = m at *
  obtain ⟨d0, d1, d2, d3, d4, d5, d6⟩ := hG5.cells
  have hf7 := hG5.frozen 6
  go_wp2
  go_ret
  have hG6 : Gis (w5.setCell ⟨b, 6, none⟩ (.int .i64 ((m.op : Int) - 1))) b s nv4 rv (shut m) := by
    have := hG5.setOp (m.op - 1)
    rw [show ((m.op - 1 : Nat) : Int) = (m.op : Int) - 1 by omega] at this
    exact this
  have hK6 : Kept (· = b) w4 (w5.setCell ⟨b, 6, none⟩ (.int .i64 ((m.op : Int) - 1))) := hK5.setCell (fun _ => rfl) _
  exact ⟨by rw [HP.out]; rfl, nv4, U4, by rw [HP.out]; exact hR4.only hK6 hG6, hS.trans (Stp.only hK6)⟩

set_option maxRecDepth 100000 in
set_option maxHeartbeats 3200000 in
theorem part_class (s : ByteArray) (ch : St → St × Nat) (base b : Nat) (nv rv : Value) (U : Nat → Prop) (A : St) (w : World) (hR : RG w base b s nv rv U A) (hO : Ok s A) (h91 : pk s (bl s A.sc) = 91) :
    Calls Try.prog 57 #[.pointer (some ⟨b, 0, none⟩)] w fun e w' => e = .returned (.int .i64 ((partM s ch A).2 : Int)) ∧ ∃ nv' U', RG w' base b s nv' rv U' (partM s ch A).1 ∧ Stp w.heap.size b nv nv' U U' w w' := by
  have hlen := hO.len
  have hs := hO.size
  have htt := hO.t
  have hbt := bl_t s A.sc
  have hbo := bl_op s A.sc
  have hiv1 := hO.iv.bl
  have hl : letterB (pk s (bl s A.sc)) = false := by rw [h91]; decide
  have HP : Hid (partM s ch A = addN { A with sc := (set s (tm (bl s A.sc))).2 } { nd0 with kind := 1, rng := (set s (tm (bl s A.sc))).1, term := (bl s A.sc).t }) := by
    unfold Hid partM; rw [hl, if_neg (by decide), if_neg (by omega), if_neg (by omega), if_pos h91]
  obtain ⟨p1, p2, p3⟩ := pk_pos (s := s) (g := bl s A.sc) (by omega)
  clear p3
  have H91 := hide h91
  clear h91
  generalize partM s ch A = r at *
  go_enter Try.func57, Try.ntmps57
  go_wp2_with fail
  refine (blanks_any b s nv rv A.sc _ hR.gis hs).mono ?_
  rintro e w1 ⟨rfl, hG1, hK1⟩
  generalize bl s A.sc = g1 at *
  go_wp2_with fail
  refine (peek_any b s nv rv g1 _ hG1 hs).mono ?_
  rintro e w2 ⟨rfl, n2, rfl⟩
  go_wp2_with fail
  refine (letter_any _ _).mono ?_
  rintro e w3 ⟨rfl, rfl⟩
  rw [hl]
  have hK2 : Kept (· = b) w (w1.drewN n2) := hK1.drewN n2
  have hG2 := hG1.drewN n2
  generalize w1.drewN n2 = w2 at *
  clear hG1 hK1
  have q46 : ((pk s g1 : Int) == 46) = false := by have := H91.out; simp; omega
  have q39 : ((pk s g1 : Int) == 39) = false := by have := H91.out; simp; omega
  have q91 : ((pk s g1 : Int) == 91) = true := by have := H91.out; simp; omega
  have Hbt := hide hbt
  clear hbt hbo
  go_wp2_with fail
  refine (terminal_any b s nv rv g1 _ hG2 (by rw [Hbt.out]; omega) (by have := hiv1.2; omega)).mono ?_
  rintro e w4 ⟨rfl, hG4, hK4⟩
  have hK : Kept (· = b) w w4 := hK2.trans hK4
  have htiv := tm_iv hiv1 p2
  generalize tm g1 = g4 at *
  have hz := z59_size
  have ho1 := ones_of NodeIs.zero.one
  have hc0 : NodeIs ((z59.setIfInBounds 0 (.int .i64 1)).setIfInBounds 258 (.int .i64 (g1.t : Int))) { nd0 with kind := 1, term := g1.t } (.slice none 0 0) := (NodeIs.zero.setKind 1).setTerm g1.t
  have hcs := hc0.size
  have ho := ones_of hc0.one
  generalize hcc : ((z59.setIfInBounds 0 (.int .i64 1)).setIfInBounds 258 (.int .i64 (g1.t : Int))) = c0 at *
  have Hcc := hide hcc
  clear hcc
  have hrow : ((w4.alloc (.cells z59 59)).setRow w4.heap.size c0) = w4.alloc (.cells c0 59) := World.setRow_alloc_new w4 z59 c0 59
  have hbuild : build59r Try.prog [(0, .int .i64 1), (3, .int .i64 (g1.t : Int))] w4 = .ok (.value (.agg c0)) w4 := by rw [build59_term, Hcc.out]
  go_wp2_with fail
  have hG5 : Gis (w4.alloc (.cells c0 59)) b s nv rv g4 := hG4.alloc _
  have hrng := setF_rng (s := s) (s.size + 2) true g4 htiv
  have hkb : w.heap.size ≤ w4.heap.size := hK.size
  refine (set_any b w4.heap.size s nv rv g4 c0 _ hG5 (objAt_new _ _) hcs hs htiv).mono ?_
  rintro e w6 ⟨rfl, hG6, hO6, hK6⟩
  have hK' : Kept (· = b) w w6 := (hK.alloc _).then hK6 (fun i hi h => by rcases h with h | h; · exact h
                                                                          · omega)
  change ∀ r ∈ (set s g4).1, r.1 < 256 ∧ r.2 < 256 at hrng
  generalize set s g4 = S at *
  obtain ⟨l, g6⟩ := S
  dsimp only at *
  have hc6 := hc0.marks l (fun r hr => (hrng r hr).2)
  have hs6 := hc6.size
  have hR6 := hR.only hK' hG6
  generalize marks c0 l = c6 at *
  have hex : c6.extract 0 262 = c6 := by rw [← hs6]; simp
  clear hrow hbuild hrng ho hcs ho1 hz
  go_wp2_with fail
  refine (addR hR6 hc6 rfl (by dsimp only; omega)).mono ?_
  rintro e w7 ⟨rfl, nv', U', hR7, hS7⟩
  go_wp2
  go_ret
  exact ⟨by rw [HP.out]; rfl, nv', U', by rw [HP.out]; exact hR7, (Stp.only hK').trans hS7⟩

end Go.Proofs.Ytagklnaaoclmhaa

namespace Go.Proofs.Ytagklnaaoclmhaa
open Go.RowKit
attribute [local go_sem ↓] exec_load59 exec_alloc59 exec_store59 exec_build59 exec_buildSlice36
attribute [local go_sem] load59At_ptr load59Of_some store59At_ptr store59Of_some build59_nil build59_kind build59_term build59_name build59_subs buildSlice36_some objAt_drew objAt_drewN objAt_new objAt_old

theorem Kept.drop {b kb : Nat} {w W : World} (h : Kept (fun k => k = b ∨ k = kb) w W) (hk : w.heap.size ≤ kb) : Kept (· = b) w W :=
  ⟨h.os, h.tape, h.output, h.size, fun k hk' hn => h.block k hk' (by
    rintro (e | e)
    · exact hn e
    · omega)⟩

set_option maxRecDepth 100000 in
set_option maxHeartbeats 3200000 in
theorem part_lit (s : ByteArray) (ch : St → St × Nat) (base b : Nat) (nv rv : Value) (U : Nat → Prop) (A : St) (w : World) (hR : RG w base b s nv rv U A) (hO : Ok s A) (h39 : pk s (bl s A.sc) = 39) :
    Calls Try.prog 57 #[.pointer (some ⟨b, 0, none⟩)] w fun e w' => e = .returned (.int .i64 ((partM s ch A).2 : Int)) ∧ ∃ nv' U', RG w' base b s nv' rv U' (partM s ch A).1 ∧ Stp w.heap.size b nv nv' U U' w w' := by
  have hlen := hO.len
  have hs := hO.size
  have htt := hO.t
  have hbt := bl_t s A.sc
  have hbo := bl_op s A.sc
  have hiv1 := hO.iv.bl
  have hl : letterB (pk s (bl s A.sc)) = false := by rw [h39]; decide
  have HP : Hid (partM s ch A = addN { A with sc := (lit s (tm (bl s A.sc))).2 } { nd0 with kind := 0, text := (lit s (tm (bl s A.sc))).1, term := (bl s A.sc).t }) := by
    unfold Hid partM; rw [hl, if_neg (by decide), if_neg (by omega), if_pos h39]
  obtain ⟨p1, p2, p3⟩ := pk_pos (s := s) (g := bl s A.sc) (by omega)
  clear p3
  have H39 := hide h39
  clear h39
  generalize partM s ch A = r at *
  go_enter Try.func57, Try.ntmps57
  go_wp2_with fail
  refine (blanks_any b s nv rv A.sc _ hR.gis hs).mono ?_
  rintro e w1 ⟨rfl, hG1, hK1⟩
  generalize bl s A.sc = g1 at *
  go_wp2_with fail
  refine (peek_any b s nv rv g1 _ hG1 hs).mono ?_
  rintro e w2 ⟨rfl, n2, rfl⟩
  go_wp2_with fail
  refine (letter_any _ _).mono ?_
  rintro e w3 ⟨rfl, rfl⟩
  rw [hl]
  have hK2 : Kept (· = b) w (w1.drewN n2) := hK1.drewN n2
  have hG2 := hG1.drewN n2
  generalize w1.drewN n2 = w2 at *
  clear hG1 hK1
  have q46 : ((pk s g1 : Int) == 46) = false := by have := H39.out; simp; omega
  have q39 : ((pk s g1 : Int) == 39) = true := by have := H39.out; simp; omega
  have Hbt := hide hbt
  clear hbt hbo
  go_wp2_with fail
  refine (terminal_any b s nv rv g1 _ hG2 (by rw [Hbt.out]; omega) (by have := hiv1.2; omega)).mono ?_
  rintro e w4 ⟨rfl, hG4, hK4⟩
  have hK : Kept (· = b) w w4 := hK2.trans hK4
  have htiv := tm_iv hiv1 p2
  generalize tm g1 = g4 at *
  have hz := z59_size
  have ho1 := ones_of NodeIs.zero.one
  have hc0 : NodeIs ((z59.setIfInBounds 0 (.int .i64 0)).setIfInBounds 258 (.int .i64 (g1.t : Int))) { nd0 with kind := 0, term := g1.t } (.slice none 0 0) := (NodeIs.zero.setKind 0).setTerm g1.t
  have hcs := hc0.size
  have ho := ones_of hc0.one
  generalize hcc : ((z59.setIfInBounds 0 (.int .i64 0)).setIfInBounds 258 (.int .i64 (g1.t : Int))) = c0 at *
  have Hcc := hide hcc
  clear hcc
  have hrow : ((w4.alloc (.cells z59 59)).setRow w4.heap.size c0) = w4.alloc (.cells c0 59) := World.setRow_alloc_new w4 z59 c0 59
  have hbuild : build59r Try.prog [(0, .int .i64 0), (3, .int .i64 (g1.t : Int))] w4 = .ok (.value (.agg c0)) w4 := by rw [build59_term, Hcc.out]
  have HL2 : Hid (lit s g4 = ((litF s (s.size + 2) [] g4).1, adv (litF s (s.size + 2) [] g4).2)) := rfl
  generalize hLL : litF s (s.size + 2) [] g4 = L at *
  have HL : Hid (litF s (s.size + 1 + 1) [] g4 = L) := hLL
  clear hLL
  have hkb : w.heap.size ≤ w4.heap.size := hK.size
  have hblt := hG4.lt
  have hbk : b ≠ w4.heap.size := by omega
  go_wp2_with fail
  generalize hH : w4.heap.size = kb at *
  have hG5 : Gis (w4.alloc (.cells c0 59)) b s nv rv g4 := hG4.alloc _
  have hO5 : objAt (w4.alloc (.cells c0 59)) kb = some (.cells c0 59 (0, 0)) := by rw [← hH]; exact objAt_new _ _
  have hK5 : Kept (fun k => k = b ∨ k = kb) w (w4.alloc (.cells c0 59)) := (hK.alloc _).mono (fun _ _ h => Or.inl h)
  generalize w4.alloc (.cells c0 59) = w5 at *
  clear hH hrow hbuild hG4 hK4 hK hK2 hG2
  go_loopg [7] (s.size + 1) (fun n v wx => ∃ acc g6 c6, rk s g6 ≤ n ∧ Iv s g6 ∧ acc.length + rk s g6 ≤ 401 ∧ Gis wx b s nv rv g6 ∧ objAt wx kb = some (.cells c6 59 (0, 0)) ∧ NodeIs c6 { nd0 with kind := 0, text := acc, term := g1.t } (.slice none 0 0) ∧ Kept (fun k => k = b ∨ k = kb) w wx ∧ Hid (litF s (n + 1) acc g6 = L))
  case atStart => exact ⟨[], g4, c0, rk_le _ _, htiv, by have := rk_le s g4; simp; omega, hG5, hO5, hc0, hK5, HL.out⟩
  case round =>
    obtain ⟨acc, g6, c6, hrk, hI6, hal, hG6, hO6, hN6, hK6, HR⟩ := hrel
    obtain ⟨m, hm⟩ : ∃ m, m = gk := ⟨gk, rfl⟩
    subst hm
    obtain ⟨c0', c1, c2, c3, c4, c5, c6'⟩ := hG6.cells
    have hf := hG6.frozen 5
    have hat6 := hI6.2
    by_cases hcond : g6.bad < 0 ∧ pk s g6 ≠ 39
    · have h1 := HR.out
      rw [litF, if_pos hcond] at h1
      have H1 := hide h1
      clear h1 HR
      obtain ⟨hb, hpk⟩ := hcond
      have hpk' : ((pk s g6 : Int) != 39) = true := by simp; omega
      obtain ⟨i1, i2, i3, i4, i5, i6⟩ := inner_facts hI6 barL 0
      have HM : Hid (rk s (inner s g6 barL 0).2 < rk s g6 ∧ rk s g6 ≤ m ∧ acc.length + rk s g6 ≤ 401) := ⟨rk_lt hI6 hb (fun h => (i6 h).2), hrk, hal⟩
      have hal' : acc.length ≤ 401 := by omega
      clear hrk hal
      have hinn := inner_any0 b s ⟨#[10, 39]⟩ nv rv g6
      change ∀ w, Gis w b s nv rv g6 → s.size ≤ 400 → _ ≤ 1000 → g6.at_ ≤ 10000 → Calls Try.prog 61 #[.pointer (some ⟨b, 0, none⟩), .string ⟨#[10, 39]⟩, .int .i64 0] w fun e w' => e = .returned (.int .i64 ((inner s g6 barL 0).1 : Int)) ∧ Gis w' b s nv rv (inner s g6 barL 0).2 ∧ Kept (· = b) w w' at hinn
      have HINN := hide hinn
      clear hinn
      generalize inner s g6 barL 0 = I at *
      obtain ⟨x, g8⟩ := I
      dsimp only at *
      go_wp2_with fail
      refine (peek_any b s nv rv g6 _ hG6 hs).mono ?_
      rintro e w6 ⟨rfl, n6, rfl⟩
      go_wp2_with fail
      refine (HINN.out _ (hG6.drewN n6) hs (by decide) (by omega)).mono ?_
      rintro e w8 ⟨rfl, hG8, hK8⟩
      have hO8 : objAt w8 kb = some (.cells c6 59 (0, 0)) := objAt_kept (show objAt (wr.drewN n6) kb = _ from hO6) hK8 (fun h => hbk h.symm)
      have hK8' : Kept (fun k => k = b ∨ k = kb) w w8 := (hK6.drewN n6).trans (hK8.mono (fun _ _ h => Or.inl h))
      have ht1 : w8.cell? ⟨kb, 1, none⟩ = some (.string (ba acc)) := by rw [objAt_cell hO8]; exact hN6.text
      have hfz : ∀ o, w8.frozen? ⟨kb, o, none⟩ = false := fun o => objAt_frozen hO8
      have hkb8 := objAt_lt hO8
      clear c0' c1 c2 c3 c4 c5 c6' hf
      have hcv := convert_one (w8.alloc (.cells #[.int .u8 (x : Int)] 5)) w8.heap.size x i3 (objAt_new w8 _)
      have hcl : ∀ o, (w8.alloc (.cells #[.int .u8 (x : Int)] 5)).cell? ⟨kb, o, none⟩ = w8.cell? ⟨kb, o, none⟩ := fun o => World.cell?_alloc_lt _ _ _ hkb8
      have hfl : ∀ o, (w8.alloc (.cells #[.int .u8 (x : Int)] 5)).frozen? ⟨kb, o, none⟩ = w8.frozen? ⟨kb, o, none⟩ := fun o => World.frozen?_alloc_past _ _ _ hkb8
      have hsz : (ba acc).size = acc.length := by simp [ba, ByteArray.size]
      have hsz2 : (ba [UInt8.ofNat x]).size = 1 := rfl
      go_wp2
      go_roundg (m - 1)
      case measure => have := HM.out; omega
      case rel =>
        have := HM.out
        refine ⟨acc ++ [x.toUInt8], g8, c6.setIfInBounds 1 (.string (ba (acc ++ [x.toUInt8]))), by omega, i1, by simp; omega, ?_, ?_, hN6.setText _, ?_, ?_⟩
        · exact (hG8.setOther (p := ⟨kb, 1, none⟩) hbk _).alloc _
        · rw [ba_append]
          rw [objAt_old _ _ (by simpa [World.setCell] using hkb8)]
          exact objAt_set hO8 _
        · exact (hK8'.setCell (p := ⟨kb, 1, none⟩) (fun _ => Or.inr rfl) _).alloc _
        · rw [show m - 1 + 1 = m by omega]; exact H1.out
    · have h1 := HR.out
      rw [litF, if_neg hcond] at h1
      subst h1
      clear HR HL
      have hK7 : ∀ W, Kept (fun k => k = b ∨ k = kb) w W → Kept (· = b) w W := fun W hW => hW.drop hkb
      have hs6 := hN6.size
      have hex : c6.extract 0 262 = c6 := by rw [← hs6]; simp
      by_cases hb : g6.bad < 0
      · have hpk' : ((pk s g6 : Int) != 39) = false := by
          have : pk s g6 = 39 := Decidable.byContradiction fun h => hcond ⟨hb, h⟩
          simp; omega
        clear hcond
        go_wp2_with fail
        refine (peek_any b s nv rv g6 _ hG6 hs).mono ?_
        rintro e w6 ⟨rfl, n6, rfl⟩
        have hO7 : objAt ((wr.drewN n6).setCell ⟨b, 5, none⟩ (.int .i64 ((g6.at_ : Int) + 1))) kb = some (.cells c6 59 (0, 0)) := by rw [objAt_other _ _ _ (Ne.symm hbk)]; exact hO6
        have hG7 : Gis ((wr.drewN n6).setCell ⟨b, 5, none⟩ (.int .i64 ((g6.at_ : Int) + 1))) b s nv rv (adv g6) := (hG6.drewN n6).setAt _
        have hK8 := hK7 _ (((hK6.drewN n6).setCell (p := ⟨b, 5, none⟩) (fun _ => Or.inl rfl) (.int .i64 ((g6.at_ : Int) + 1))))
        go_wp2_with fail
        refine (addR (hR.only hK8 hG7) hN6 rfl (by dsimp only; omega)).mono ?_
        rintro e w7 ⟨rfl, nv', U', hR7, hS7⟩
        go_wp2
        go_ret
        exact ⟨by rw [HP.out]; rfl, nv', U', by rw [HP.out, HL2.out]; exact hR7, (Stp.only hK8).trans hS7⟩
      · clear hcond
        have hO7 : objAt (wr.setCell ⟨b, 5, none⟩ (.int .i64 ((g6.at_ : Int) + 1))) kb = some (.cells c6 59 (0, 0)) := by rw [objAt_other _ _ _ (Ne.symm hbk)]; exact hO6
        have hG7 : Gis (wr.setCell ⟨b, 5, none⟩ (.int .i64 ((g6.at_ : Int) + 1))) b s nv rv (adv g6) := hG6.setAt _
        have hK8 := hK7 _ ((hK6.setCell (p := ⟨b, 5, none⟩) (fun _ => Or.inl rfl) (.int .i64 ((g6.at_ : Int) + 1))))
        go_wp2_with fail
        refine (addR (hR.only hK8 hG7) hN6 rfl (by dsimp only; omega)).mono ?_
        rintro e w7 ⟨rfl, nv', U', hR7, hS7⟩
        go_wp2
        go_ret
        exact ⟨by rw [HP.out]; rfl, nv', U', by rw [HP.out, HL2.out]; exact hR7, (Stp.only hK8).trans hS7⟩

end Go.Proofs.Ytagklnaaoclmhaa
