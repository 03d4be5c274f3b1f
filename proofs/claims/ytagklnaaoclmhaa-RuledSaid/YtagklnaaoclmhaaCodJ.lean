import Derived.Test.YtagklnaaoclmhaaCodI
set_option linter.unusedSimpArgs false
set_option linter.unusedVariables false
namespace Go.Proofs.Ytagklnaaoclmhaa
open Go.RowKit

/-- A sequence ended well where the ref reads on, and is wrong: at this byte. -/
structure Stuck (s : ByteArray) (o : Nat) (g : Sc) : Prop where
  bad : g.bad < 0
  lt : g.at_ < s.size
  n32 : byteAt s g.at_ ≠ 32
  n10 : byteAt s g.at_ ≠ 10
  n47 : byteAt s g.at_ ≠ 47
  n41 : 0 < o → byteAt s g.at_ ≠ 41

theorem Stuck.bl {s : ByteArray} {o : Nat} {g : Sc} (h : Stuck s o g) : bl s g = g := bl_eq (k := g.at_) (fun _ => rfl) (fun _ => rfl) (fun _ x => h.n32 x.2)
theorem Stuck.sgB {s : ByteArray} {o : Nat} {g : Sc} (h : Stuck s o g) {c : Nat} (hc : byteAt s g.at_ ≠ c) : sgB s g c = false := by
  unfold Go.Proofs.Ytagklnaaoclmhaa.sgB; rw [h.bl]; simp [hc]
theorem Stuck.sg {s : ByteArray} {o : Nat} {g : Sc} (h : Stuck s o g) {c : Nat} (hc : byteAt s g.at_ ≠ c) : sg s g c = g := by
  unfold Go.Proofs.Ytagklnaaoclmhaa.sg; rw [h.sgB hc, h.bl]; rfl
theorem Stuck.iv {s : ByteArray} {o : Nat} {g : Sc} (h : Stuck s o g) : Iv s g := ⟨fun _ => Nat.le_of_lt h.lt, by have := h.lt; omega⟩

/-- What sequence and choice leave. -/
structure COut (base b : Nat) (s : ByteArray) (mv : Value) (T : Nat → Prop) (P : List Nat) (ms : List Mn) (A : St) (w : World) (X : St × Nat) (e : Ending) (w' : World) : Prop where
  ok : X.1.sc.bad < 0 → ∃ mv' P2 l, e = .returned (.tuple #[ptrAt (P ++ P2) X.2, .bool true]) ∧ X.1.ns = A.ns ++ l ∧ CR w' base b s mv' T (P ++ P2) (ms ++ mns A.ns.length l) X.1 ∧ Cs b mv mv' w w' ∧ X.2 < X.1.ns.length
  no : 0 ≤ X.1.sc.bad → ∃ v c, e = .returned (.tuple #[v, .bool c]) ∧ ∃ mv' g', Ris w' b s mv' g' ∧ (g'.at_ : Int) = X.1.sc.bad ∧ Cs b mv mv' w w' ∧ (c = true → Stuck s A.sc.op g' ∧ ∃ p, v = .pointer p)

/-- What choice leaves: its part is new. -/
structure ChOut (base b : Nat) (s : ByteArray) (mv : Value) (T : Nat → Prop) (P : List Nat) (ms : List Mn) (A : St) (w : World) (X : St × Nat) (e : Ending) (w' : World) : Prop where
  out : COut base b s mv T P ms A w X e w'
  new : X.1.sc.bad < 0 → ∃ k, e = .returned (.tuple #[.pointer (some ⟨k, 0, none⟩), .bool true]) ∧ w.heap.size ≤ k

def ChSaid (F : Nat) (s : ByteArray) (ch : St → St × Nat) (d : Nat) : Prop := ∀ (base b : Nat) (mv : Value) (T : Nat → Prop) (P : List Nat) (ms : List Mn) (A : St) (w : World), CR w base b s mv T P ms A → Ok s A → A.sc.bad < 0 → 5 ≤ A.sc.op + d →
  Calls Try.prog F #[.pointer (some ⟨b, 0, none⟩)] w fun e w' => ChOut base b s mv T P ms A w (ch A) e w'

theorem skipF_ends (s : ByteArray) : ∀ f i, s.size ≤ i + f → ¬ (skipF s f i < s.size ∧ byteAt s (skipF s f i) = 32)
  | 0, i, h => by simp only [skipF]; omega
  | f + 1, i, h => by
    rw [skipF]
    split
    · exact skipF_ends s f (i + 1) (by omega)
    · next hn => exact hn
theorem bl_idem (s : ByteArray) (g : Sc) : bl s (bl s g) = bl s g := by
  by_cases hb : g.bad < 0
  · have h1 : bl s g = { g with at_ := skipF s (s.size - g.at_) g.at_ } := by unfold bl; rw [if_pos hb]
    have := skipF_ends s (s.size - g.at_) g.at_ (by omega)
    exact bl_eq (k := (bl s g).at_) (fun _ => rfl) (fun _ => rfl) (fun _ x => by rw [h1] at x; exact this x)
  · rw [bl_of_bad (show 0 ≤ g.bad by omega), bl_of_bad (show 0 ≤ g.bad by omega)]

theorem Fails.pre {w w1 w' : World} {b : Nat} {s : ByteArray} {mv mv1 : Value} {x : Int} (h : Fails w1 w' b s mv1 x) (hS : Cs b mv mv1 w w1) : Fails w w' b s mv x := by
  obtain ⟨mv', g', h1, h2, h3⟩ := h
  exact ⟨mv', g', h1, h2, hS.trans h3⟩
theorem POut.pre {w w1 w' : World} {base b : Nat} {s : ByteArray} {mv : Value} {T : Nat → Prop} {P : List Nat} {ms : List Mn} {A : St} {g : Sc} {X : St × Nat} {e : Ending} (h : POut base b s mv T P ms { A with sc := g } w1 X e w') (hS : Cs b mv mv w w1) : POut base b s mv T P ms A w X e w' := by
  refine ⟨fun hg => ?_, fun hg => ?_⟩
  · obtain ⟨mv', P2, l, h1, h2, h3, h4, h5⟩ := h.ok hg
    exact ⟨mv', P2, l, h1, h2, h3, hS.trans h4, h5⟩
  · obtain ⟨v, h1, h2⟩ := h.no hg
    exact ⟨v, h1, h2.pre hS⟩

/-- bracket, as the ref's part has it. -/
def brM (s : ByteArray) (ch : St → St × Nat) (A : St) : St × Nat :=
  if A.sc.op < 5 then ({ (ch { A with sc := opn A.sc }).1 with sc := shut (mu s (ch { A with sc := opn A.sc }).1.sc 41) }, (ch { A with sc := opn A.sc }).2)
  else addN { A with sc := wr A.sc } nd0

set_option maxHeartbeats 1600000 in
theorem bracket_any {s : ByteArray} {ch : St → St × Nat} {d : Nat} (hch : d = 0 ∨ ChSaid 38 s ch (d - 1)) (hgd : d = 0 ∨ Good s ch (d - 1)) (base b : Nat) (mv : Value) (T : Nat → Prop) (P : List Nat) (ms : List Mn) (A : St) (w : World) (hC : CR w base b s mv T P ms A) (hO : Ok s A) (hb : A.sc.bad < 0) (hd : 5 ≤ A.sc.op + d) (hp : pk s A.sc = 40) :
    Calls Try.prog 67 #[.pointer (some ⟨b, 0, none⟩)] w fun e w' => POut base b s mv T P ms A w (brM s ch A) e w' := by
  obtain ⟨c0, c1, c2, c3, c4⟩ := hC.ris.cells
  have hs := hO.size
  have hop := hO.op
  have ht40 := hC.t40
  by_cases h5 : A.sc.op < 5
  · have hd0 : d ≠ 0 := by omega
    have hch' := hch.resolve_left hd0
    have hgd' := hgd.resolve_left hd0
    have hlt := (pk_pos (s := s) (g := A.sc) (by omega)).2.1
    have hio : Iv s (opn A.sc) := ⟨fun _ => by simp [opn]; omega, by simp [opn]; omega⟩
    have ht := hO.t
    have hOk : Ok s { A with sc := opn A.sc } := by
      refine ⟨hio, by dsimp only [opn]; omega, ?_, by dsimp only [opn]; omega, hs⟩
      have hr := rest_lt (s := s) (g := A.sc) (g' := opn A.sc) hO.iv hb (fun _ => by simp [opn])
      have hpt := hO.pt
      unfold Pt at hpt ⊢
      dsimp only at hpt ⊢
      omega
    have hd' : 5 ≤ (opn A.sc).op + (d - 1) := by dsimp only [opn]; omega
    have hfc := hgd' { A with sc := opn A.sc } hio hd'
    have HX : Hid (brM s ch A = ({ (ch { A with sc := opn A.sc }).1 with sc := shut (mu s (ch { A with sc := opn A.sc }).1.sc 41) }, (ch { A with sc := opn A.sc }).2)) := by unfold Hid brM; rw [if_pos h5]
    have q5 : ((A.sc.op : Int) == 5) = false := beq_eq_false_iff_ne.2 (by omega)
    have hq : tkB s A.sc 40 = true := by rw [pk_nx hb (hO.iv.1 hb) (by decide), hp]; rfl
    go_enter Try.func67, Try.ntmps67
    go_wp2_with fail
    refine (take_any b s mv A.sc 40 _ hC.ris hs (hO.iv.1 hb) (by decide)).mono ?_
    rintro e w1 ⟨rfl, hR1, hK1⟩
    have hR1' : Ris w1 b s mv (adv A.sc) := by unfold tk at hR1; rw [hq] at hR1; exact hR1
    rw [hq]
    clear c0 c1 c2 c3 c4 hR1
    obtain ⟨c0, c1, c2, c3, c4⟩ := hR1'.cells
    have hf3 := hR1'.frozen 4
    rw [adv_op] at c3
    have hR2 : Ris (w1.setCell ⟨b, 4, none⟩ (.int .i64 ((A.sc.op + 1 : Nat) : Int))) b s mv (opn A.sc) := hR1'.setOp _
    have hK2 : Kept (· = b) w (w1.setCell ⟨b, 4, none⟩ (.int .i64 ((A.sc.op + 1 : Nat) : Int))) := hK1.setCell (fun _ => rfl) _
    have hC2 := hC.only hK2 hR2 (show A.sc.t ≤ 40 from ht40)
    go_wp2_with fail
    refine (hch' base b mv T P ms { A with sc := opn A.sc } _ hC2 hOk hb hd').mono ?_
    intro e w3 hChO
    have hOut := hChO.out
    have hNew := hChO.new
    clear hChO
    have hS2 : Cs b mv mv w (w1.setCell ⟨b, 4, none⟩ (.int .i64 ((A.sc.op + 1 : Nat) : Int))) := Cs.only hK2
    have hopn : (opn A.sc).op = A.sc.op + 1 := rfl
    have hfo := hfc.op
    have hfi := hfc.iv
    generalize ch { A with sc := opn A.sc } = X at *
    obtain ⟨B, x⟩ := X
    dsimp only at *
    clear c0 c1 c2 c3 c4 hf3 hR2 hK2 hC2 hR1' hK1 hq hfc hOk
    by_cases hbB : B.sc.bad < 0
    · obtain ⟨mv', P2, l, rfl, hns, hC3, hS3, hx⟩ := hOut.ok hbB
      dsimp only at *
      have ht3 := hC3.t40
      obtain ⟨kk, hkk, hkn⟩ := hNew hbB
      have hkE : (P ++ P2).getD x 0 = kk := by
        unfold ptrAt at hkk; simpa using hkk
      clear hkk hNew
      have hkw : w.heap.size ≤ kk := by have := hS2.kept.size; omega
      unfold ptrAt
      rw [hkE]
      go_wp2_with fail
      refine (takeSign_any b s mv' B.sc 41 _ hC3.ris hs hfi hbB (by decide)).mono ?_
      rintro e w4 ⟨rfl, hR4, hK4⟩
      have hS4 := (hS2.trans hS3).trans (Cs.only (mv := mv') hK4)
      cases hq : sgB s B.sc 41
      · have HB : Hid ((brM s ch A).1.sc.bad = (sg s B.sc 41).at_) := by
          unfold Hid; rw [HX.out]; show (mu s B.sc 41).bad = _
          unfold mu; rw [hq]; simp only [Bool.false_eq_true, if_false]
          rw [wr_eq (by rw [sg_bad]; exact hbB)]
        go_wp2
        go_ret2
        exact ⟨fun h => absurd h (by rw [HB.out]; omega), fun _ => ⟨_, rfl, mv', _, hR4, by rw [HB.out], hS4⟩⟩
      · have HB : Hid (brM s ch A = ({ B with sc := shut (sg s B.sc 41) }, x)) := by
          unfold Hid; rw [HX.out]
          unfold mu; rw [hq]; rfl
        obtain ⟨c0, c1, c2, c3, c4⟩ := hR4.cells
        have hf3 := hR4.frozen 4
        have hso : (sg s B.sc 41).op = A.sc.op + 1 := by rw [sg_op, hfo, hopn]
        rw [hso] at c3
        have hsb : (sg s B.sc 41).bad < 0 := by rw [sg_bad]; exact hbB
        have hst : (sg s B.sc 41).t ≤ 40 := by rw [sg_t]; exact ht3
        have hR5 : Ris (w4.setCell ⟨b, 4, none⟩ (.int .i64 (A.sc.op : Int))) b s mv' (shut (sg s B.sc 41)) := by
          have := hR4.setOp A.sc.op
          unfold shut; rw [hso]; exact this
        have hK5 : Kept (· = b) w4 (w4.setCell ⟨b, 4, none⟩ (.int .i64 (A.sc.op : Int))) := (Kept.refl (· = b) w4).setCell (fun _ => rfl) _
        have hC5 := hC3.only (hK4.trans hK5) hR5 hst
        have hS5 := hS4.trans (Cs.only (mv := mv') hK5)
        have hcast : (((A.sc.op + 1 : Nat) : Int) - 1) = (A.sc.op : Int) := by omega
        obtain ⟨z0, vR, vP, hpt, hpS, _⟩ := hC5.ar.part x hx
        rw [hkE] at hpt hpS
        have hne : kk ≠ b := hpS.1
        have hne2 : b ≠ kk := fun h => hne h.symm
        rw [Below.heap_setCell _ _ _ _ (show kk ≠ b from hne)] at hpt
        have hfk : w4.frozen? ⟨kk, 3, none⟩ = false := by
          simp [World.frozen?, hpt]
        have hck : w4.cell? ⟨kk, 3, none⟩ = some (.int .i64 z0) := by
          simp [World.cell?, hpt, ptB]
        obtain ⟨zz, hzz⟩ := hR4.brk
        have hf3 := hR4.frozen 3
        have hC6 := hC5.setBrk hx zz
        rw [hkE] at hC6
        have hS6 : Cs b mv mv' w ((w4.setCell ⟨b, 4, none⟩ (.int .i64 (A.sc.op : Int))).setCell ⟨kk, 3, none⟩ (.int .i64 zz)) := ⟨hS5.kept.setCell (fun hlt => absurd hlt (by dsimp only; omega)) _, hS5.own⟩
        have hC7 := fun y : Int => hC6.only ((Kept.refl (· = b) _).setCell (p := ⟨b, 3, none⟩) (fun _ => rfl) (.int .i64 y)) (hC6.ris.setB y) hC6.t40
        have hS7 := fun y : Int => hS6.trans (Cs.only (mv := mv') ((Kept.refl (· = b) _).setCell (p := ⟨b, 3, none⟩) (fun _ => rfl) (.int .i64 y)))
        clear hpt hpS hC6 hS6 hC5 hS5 hR5 hK5
        go_wp2
        go_ret2
        rw [HB.out]
        exact ⟨fun _ => ⟨mv', P2, l, by unfold ptrAt; rw [hkE]; rfl, hns, hC7 _, hS7 _, hx⟩, fun h => absurd (show 0 ≤ (sg s B.sc 41).bad from h) (by omega)⟩
    · obtain ⟨v, c, rfl, mv', g', hR3, hat, hS3, hst⟩ := hOut.no (show 0 ≤ B.sc.bad by omega)
      dsimp only at *
      have hS3' := hS2.trans hS3
      have HB : Hid ((brM s ch A).1.sc.bad = B.sc.bad) := by
        unfold Hid; rw [HX.out]; show (mu s B.sc 41).bad = _
        rw [mu_of_bad 41 (by omega)]
      cases c
      · go_wp2
        go_ret2
        exact ⟨fun h => absurd h (by rw [HB.out]; omega), fun _ => ⟨_, rfl, mv', g', hR3, by rw [HB.out]; exact hat, hS3'⟩⟩
      · obtain ⟨hSt, p, rfl⟩ := hst rfl
        have h41 := hSt.n41 (by omega)
        have hq := hSt.sgB h41
        have hq2 := hSt.sg h41
        go_wp2_with fail
        refine (takeSign_any b s mv' g' 41 _ hR3 hs hSt.iv hSt.bad (by decide)).mono ?_
        rintro e w4 ⟨rfl, hR4, hK4⟩
        rw [hq2] at hR4
        rw [hq]
        go_wp2
        go_ret2
        exact ⟨fun h => absurd h (by rw [HB.out]; omega), fun _ => ⟨_, rfl, mv', g', hR4, by rw [HB.out]; exact hat, hS3'.trans (Cs.only (mv := mv') hK4)⟩⟩
  · have HX : Hid ((brM s ch A).1.sc.bad = A.sc.at_) := by unfold Hid brM; rw [if_neg h5]; show (wr A.sc).bad = _; rw [wr_eq hb]
    have q5 : ((A.sc.op : Int) == 5) = true := beq_iff_eq.2 (by omega)
    clear hch hgd
    go_enter Try.func67, Try.ntmps67
    go_wp2
    go_ret2
    exact ⟨fun h => absurd h (by rw [HX.out]; omega), fun _ => ⟨_, rfl, mv, A.sc, hC.ris, by rw [HX.out], Cs.refl _ _ _⟩⟩
end Go.Proofs.Ytagklnaaoclmhaa
