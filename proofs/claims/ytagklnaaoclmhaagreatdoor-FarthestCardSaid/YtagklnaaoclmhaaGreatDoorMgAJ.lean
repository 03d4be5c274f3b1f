import Derived.Test.YtagklnaaoclmhaaGreatDoorMgAI
import Derived.Laws.OwnMore
set_option linter.unusedSimpArgs false
set_option linter.unusedVariables false
namespace Go.Proofs.YtagklnaaoclmhaaGreatDoor
open Go.RowKit

/-- A sequence ended well where the ref reads on, and is wrong: at this byte. -/
structure Stuck (s : ByteArray) (o : Nat) (g : Sc) : Prop where
  bad : g.bad < 0
  lt : g.at_ < s.size
  n32 : byteAt s g.at_ ≠ 32
  n10 : byteAt s g.at_ ≠ 10
  n47 : byteAt s g.at_ ≠ 47
  n41 : 0 < o → byteAt s g.at_ ≠ 41

theorem Stuck.bl {s : ByteArray} {o : Nat} {g : Sc} (h : Stuck s o g) : bl s g = g := bl_eq (k := g.at_) (fun _ => rfl) (fun _ => rfl) (fun _ x => h.n32 x.2)
theorem Stuck.sgB {s : ByteArray} {o : Nat} {g : Sc} (h : Stuck s o g) {c : Nat} (hc : byteAt s g.at_ ≠ c) : sgB s g c = false := by
  unfold Go.Proofs.YtagklnaaoclmhaaGreatDoor.sgB; rw [h.bl]; simp [hc]
theorem Stuck.sg {s : ByteArray} {o : Nat} {g : Sc} (h : Stuck s o g) {c : Nat} (hc : byteAt s g.at_ ≠ c) : sg s g c = g := by
  unfold Go.Proofs.YtagklnaaoclmhaaGreatDoor.sg; rw [h.sgB hc, h.bl]; rfl
theorem Stuck.iv {s : ByteArray} {o : Nat} {g : Sc} (h : Stuck s o g) : Iv s g := ⟨fun _ => Nat.le_of_lt h.lt, by have := h.lt; omega⟩

/-- What sequence and choice leave. -/
structure COut (base b : Nat) (s : ByteArray) (mv : Mv) (T : Nat → Prop) (P : List Nat) (ms : List Mn) (A : St) (w : World) (X : St × Nat) (e : Ending) (w' : World) : Prop where
  ok : X.1.sc.bad < 0 → ∃ mv' P2 l, e = .returned (.tuple #[ptrAt (P ++ P2) X.2, .bool true]) ∧ X.1.ns = A.ns ++ l ∧ CR w' base b s mv' T (P ++ P2) (ms ++ mns A.ns.length l) X.1 ∧ Cs b mv mv' w w' ∧ X.2 < X.1.ns.length ∧ (P ++ P2).getD X.2 0 ∉ mv'.L
  no : 0 ≤ X.1.sc.bad → ∃ v c, e = .returned (.tuple #[v, .bool c]) ∧ ∃ mv' g', Ris w' b s mv' g' ∧ (g'.at_ : Int) = X.1.sc.bad ∧ Cs b mv mv' w w' ∧ (c = true → Stuck s A.sc.op g' ∧ ∃ p, v = .pointer p)

/-- What choice leaves: its part is new. -/
structure ChOut (base b : Nat) (s : ByteArray) (mv : Mv) (T : Nat → Prop) (P : List Nat) (ms : List Mn) (A : St) (w : World) (X : St × Nat) (e : Ending) (w' : World) : Prop where
  out : COut base b s mv T P ms A w X e w'
  new : X.1.sc.bad < 0 → ∃ k, e = .returned (.tuple #[.pointer (some ⟨k, 0, none⟩), .bool true]) ∧ w.heap.size ≤ k

def ChSaid (F : Nat) (s : ByteArray) (ch : St → St × Nat) (d : Nat) : Prop := ∀ (base b : Nat) (mv : Mv) (T : Nat → Prop) (P : List Nat) (ms : List Mn) (A : St) (w : World), CR w base b s mv T P ms A → Ok s A → A.sc.bad < 0 → 5 ≤ A.sc.op + d →
  Calls Tryz.prog F #[.pointer (some ⟨b, 0, none⟩)] w fun e w' => ChOut base b s mv T P ms A w (ch A) e w'

theorem skipF_ends (s : ByteArray) : ∀ f i, s.size ≤ i + f → ¬ (skipF s f i < s.size ∧ byteAt s (skipF s f i) = 32)
  | 0, i, h => by simp only [skipF]; omega
  | f + 1, i, h => by
    rw [skipF]
    split
    · exact skipF_ends s f (i + 1) (by omega)
    · next hn => exact hn
theorem bl_idem (s : ByteArray) (g : Sc) : bl s (bl s g) = bl s g := by
  by_cases hb : g.bad < 0
  · have h1 : bl s g = { g with at_ := skipF s (s.size - g.at_) g.at_ } := by unfold bl; rw [if_pos hb]
    have := skipF_ends s (s.size - g.at_) g.at_ (by omega)
    exact bl_eq (k := (bl s g).at_) (fun _ => rfl) (fun _ => rfl) (fun _ x => by rw [h1] at x; exact this x)
  · rw [bl_of_bad (show 0 ≤ g.bad by omega), bl_of_bad (show 0 ≤ g.bad by omega)]

theorem Fails.pre {w w1 w' : World} {b : Nat} {s : ByteArray} {mv mv1 : Mv} {x : Int} (h : Fails w1 w' b s mv1 x) (hS : Cs b mv mv1 w w1) : Fails w w' b s mv x := by
  obtain ⟨mv', g', h1, h2, h3⟩ := h
  exact ⟨mv', g', h1, h2, hS.trans h3⟩
theorem POut.pre {w w1 w' : World} {base b : Nat} {s : ByteArray} {mv : Mv} {T : Nat → Prop} {P : List Nat} {ms : List Mn} {A : St} {g : Sc} {X : St × Nat} {e : Ending} (h : POut base b s mv T P ms { A with sc := g } w1 X e w') (hS : Cs b mv mv w w1) : POut base b s mv T P ms A w X e w' := by
  refine ⟨fun hg => ?_, fun hg => ?_⟩
  · obtain ⟨mv', P2, l, h1, h2, h3, h4, h5, h6⟩ := h.ok hg
    exact ⟨mv', P2, l, h1, h2, h3, hS.trans h4, h5, h6⟩
  · obtain ⟨v, h1, h2⟩ := h.no hg
    exact ⟨v, h1, h2.pre hS⟩

/-- bracket, as the ref's part has it. -/
def brM (s : ByteArray) (ch : St → St × Nat) (A : St) : St × Nat :=
  if A.sc.op < 5 then ({ (ch { A with sc := opn A.sc }).1 with sc := shut (mu s (ch { A with sc := opn A.sc }).1.sc 41) }, (ch { A with sc := opn A.sc }).2)
  else addN { A with sc := wr A.sc } nd0

set_option maxRecDepth 100000 in
set_option maxHeartbeats 1600000 in
theorem bracket_any {s : ByteArray} {ch : St → St × Nat} {d : Nat} (hch : d = 0 ∨ ChSaid 141 s ch (d - 1)) (hgd : d = 0 ∨ Good s ch (d - 1)) (base b : Nat) (mv : Mv) (T : Nat → Prop) (P : List Nat) (ms : List Mn) (A : St) (w : World) (hC : CR w base b s mv T P ms A) (hO : Ok s A) (hb : A.sc.bad < 0) (hd : 5 ≤ A.sc.op + d) (hp : pk s A.sc = 40) :
    Calls Tryz.prog 203 #[.pointer (some ⟨b, 0, none⟩)] w fun e w' => POut base b s mv T P ms A w (brM s ch A) e w' := by
  obtain ⟨c0, c1, c2, c3, c4⟩ := hC.ris.cells
  have hs := hO.size
  have hop := hO.op
  have ht40 := hC.t40
  by_cases h5 : A.sc.op < 5
  · have hd0 : d ≠ 0 := by omega
    have hch' := hch.resolve_left hd0
    have hgd' := hgd.resolve_left hd0
    have hlt := (pk_pos (s := s) (g := A.sc) (by omega)).2.1
    have hio : Iv s (opn A.sc) := ⟨fun _ => by simp [opn]; omega, by simp [opn]; omega⟩
    have ht := hO.t
    have hOk : Ok s { A with sc := opn A.sc } := by
      refine ⟨hio, by dsimp only [opn]; omega, ?_, by dsimp only [opn]; omega, hs⟩
      have hr := rest_lt (s := s) (g := A.sc) (g' := opn A.sc) hO.iv hb (fun _ => by simp [opn])
      have hpt := hO.pt
      unfold Pt at hpt ⊢
      dsimp only at hpt ⊢
      omega
    have hd' : 5 ≤ (opn A.sc).op + (d - 1) := by dsimp only [opn]; omega
    have hfc := hgd' { A with sc := opn A.sc } hio hd'
    have HX : Hid (brM s ch A = ({ (ch { A with sc := opn A.sc }).1 with sc := shut (mu s (ch { A with sc := opn A.sc }).1.sc 41) }, (ch { A with sc := opn A.sc }).2)) := by unfold Hid brM; rw [if_pos h5]
    have q5 : ((A.sc.op : Int) == 5) = false := beq_eq_false_iff_ne.2 (by omega)
    have hq : tkB s A.sc 40 = true := by rw [pk_nx hb (hO.iv.1 hb) (by decide), hp]; rfl
    go_enter Tryz.func203, Tryz.ntmps203
    go_wp2_with fail
    refine (take_any b s mv A.sc 40 _ hC.ris hs (hO.iv.1 hb) (by decide)).mono ?_
    rintro e w1 ⟨rfl, hR1, hK1⟩
    have hR1' : Ris w1 b s mv (adv A.sc) := by unfold tk at hR1; rw [hq] at hR1; exact hR1
    rw [hq]
    clear c0 c1 c2 c3 c4 hR1
    obtain ⟨c0, c1, c2, c3, c4⟩ := hR1'.cells
    have hf3 := hR1'.frozen 4
    rw [adv_op] at c3
    have hR2 : Ris (w1.setCell ⟨b, 4, none⟩ (.int .i64 ((A.sc.op + 1 : Nat) : Int))) b s mv (opn A.sc) := hR1'.setOp _
    have hK2 : Kept (· = b) w (w1.setCell ⟨b, 4, none⟩ (.int .i64 ((A.sc.op + 1 : Nat) : Int))) := hK1.setCell (fun _ => rfl) _
    have hC2 := hC.only hK2 hR2 (show A.sc.t ≤ 40 from ht40)
    go_wp2_with fail
    refine (hch' base b mv T P ms { A with sc := opn A.sc } _ hC2 hOk hb hd').mono ?_
    intro e w3 hChO
    have hOut := hChO.out
    have hNew := hChO.new
    clear hChO
    have hS2 : Cs b mv mv w (w1.setCell ⟨b, 4, none⟩ (.int .i64 ((A.sc.op + 1 : Nat) : Int))) := Cs.only hK2
    have hopn : (opn A.sc).op = A.sc.op + 1 := rfl
    have hfo := hfc.op
    have hlenB : (ch { A with sc := opn A.sc }).1.ns.length ≤ 100000 := by have h1 := hfc.pot'; have h2 := hOk.pt; unfold Pt at h1 h2; dsimp only at h1 h2 ⊢; omega
    have hfi := hfc.iv
    generalize ch { A with sc := opn A.sc } = X at *
    obtain ⟨B, x⟩ := X
    dsimp only at *
    clear c0 c1 c2 c3 c4 hf3 hR2 hK2 hC2 hR1' hK1 hq hfc hOk
    by_cases hbB : B.sc.bad < 0
    · obtain ⟨mv', P2, l, rfl, hns, hC3, hS3, hx, hnL⟩ := hOut.ok hbB
      dsimp only at *
      have ht3 := hC3.t40
      obtain ⟨kk, hkk, hkn⟩ := hNew hbB
      have hkE : (P ++ P2).getD x 0 = kk := by
        unfold ptrAt at hkk; simpa using hkk
      clear hkk hNew
      have hkw : w.heap.size ≤ kk := by have := hS2.kept.size; omega
      unfold ptrAt
      rw [hkE]
      go_wp2_with fail
      refine (takeSign_any b s mv' B.sc 41 _ hC3.ris hs hfi hbB (by decide)).mono ?_
      rintro e w4 ⟨rfl, hR4, hK4⟩
      have hS4 := (hS2.trans hS3).trans (Cs.only (mv := mv') hK4)
      cases hq : sgB s B.sc 41
      · have HB : Hid ((brM s ch A).1.sc.bad = (sg s B.sc 41).at_) := by
          unfold Hid; rw [HX.out]; show (mu s B.sc 41).bad = _
          unfold mu; rw [hq]; simp only [Bool.false_eq_true, if_false]
          rw [wr_eq (by rw [sg_bad]; exact hbB)]
        go_wp2
        go_ret2
        exact ⟨fun h => absurd h (by rw [HB.out]; omega), fun _ => ⟨_, rfl, mv', _, hR4, by rw [HB.out], hS4⟩⟩
      · have HB : Hid (brM s ch A = ({ B with sc := shut (sg s B.sc 41) }, x)) := by
          unfold Hid; rw [HX.out]
          unfold mu; rw [hq]; rfl
        obtain ⟨c0, c1, c2, c3, c4⟩ := hR4.cells
        have hf3 := hR4.frozen 4
        have hso : (sg s B.sc 41).op = A.sc.op + 1 := by rw [sg_op, hfo, hopn]
        rw [hso] at c3
        have hsb : (sg s B.sc 41).bad < 0 := by rw [sg_bad]; exact hbB
        have hst : (sg s B.sc 41).t ≤ 40 := by rw [sg_t]; exact ht3
        have hR5 : Ris (w4.setCell ⟨b, 4, none⟩ (.int .i64 (A.sc.op : Int))) b s mv' (shut (sg s B.sc 41)) := by
          have := hR4.setOp A.sc.op
          unfold shut; rw [hso]; exact this
        have hK5 : Kept (· = b) w4 (w4.setCell ⟨b, 4, none⟩ (.int .i64 (A.sc.op : Int))) := (Kept.refl (· = b) w4).setCell (fun _ => rfl) _
        have hC5 := hC3.only (hK4.trans hK5) hR5 hst
        have hS5 := hS4.trans (Cs.only (mv := mv') hK5)
        have hcast : (((A.sc.op + 1 : Nat) : Int) - 1) = (A.sc.op : Int) := by omega
        obtain ⟨z0, vR, vP, hpt, hpS, _⟩ := hC5.ar.part x hx
        rw [hkE] at hpt hpS
        have hne : kk ≠ b := hpS.1
        have hne2 : b ≠ kk := fun h => hne h.symm
        rw [Below.heap_setCell _ _ _ _ (show kk ≠ b from hne)] at hpt
        have hfk : w4.frozen? ⟨kk, 3, none⟩ = false := by
          simp [World.frozen?, hpt]
        have hck : w4.cell? ⟨kk, 3, none⟩ = some (.int .i64 z0) := by
          simp [World.cell?, hpt, ptB]
        have hzz := hR4.brk
        have hf3 := hR4.frozen 3
        have hC7 := hC5.setBrk hx hnL
        rw [hkE] at hC7
        have hbl7 : mv'.L.length ≤ 100000 := by
          have h1 := hC5.bk.len
          have h2 := hC5.ar.len
          have h3 := hlenB
          have h4 : ({ B with sc := shut (sg s B.sc 41) } : St).ns = B.ns := rfl
          rw [h4] at h2
          omega
        obtain ⟨zz, hzd⟩ : ∃ zz : Int, zz = (mv'.L.length : Int) := ⟨_, rfl⟩
        rw [← hzd] at hzz hC7
        have hzb : 0 ≤ zz ∧ zz ≤ 100000 := by omega
        have hS6 : Cs b mv mv' w ((w4.setCell ⟨b, 4, none⟩ (.int .i64 (A.sc.op : Int))).setCell ⟨kk, 3, none⟩ (.int .i64 zz)) := ⟨hS5.kept.setCell (fun hlt => absurd hlt (by dsimp only; omega)) _, hS5.own, hS5.pre⟩
        have hS7 : Cs b mv ⟨mv'.v, mv'.L ++ [kk]⟩ w (((w4.setCell ⟨b, 4, none⟩ (.int .i64 (A.sc.op : Int))).setCell ⟨kk, 3, none⟩ (.int .i64 zz)).setCell ⟨b, 3, none⟩ (.int .i64 (zz + 1))) := by
          have h0 := hS6.trans (Cs.only (mv := mv') ((Kept.refl (· = b) _).setCell (p := ⟨b, 3, none⟩) (fun _ => rfl) (.int .i64 (zz + 1))))
          obtain ⟨t, ht⟩ := h0.pre
          exact ⟨h0.kept, h0.own, t ++ [kk], by show mv'.L ++ [kk] = _; rw [ht, List.append_assoc]⟩
        have hin : (P ++ P2).getD x 0 ∈ mv'.L ++ [kk] := by rw [hkE]; simp
        clear hpt hpS hS6 hC5 hS5 hR5 hK5 hzd hnL hbl7
        go_wp2
        go_ret2
        rw [HB.out]
        exact ⟨fun _ => ⟨⟨mv'.v, mv'.L ++ [kk]⟩, P2, l, by unfold ptrAt; rw [hkE]; rfl, hns, hC7, hS7, hx, fun _ => hin⟩, fun h => absurd (show 0 ≤ (sg s B.sc 41).bad from h) (by omega)⟩
    · obtain ⟨v, c, rfl, mv', g', hR3, hat, hS3, hst⟩ := hOut.no (show 0 ≤ B.sc.bad by omega)
      dsimp only at *
      have hS3' := hS2.trans hS3
      have HB : Hid ((brM s ch A).1.sc.bad = B.sc.bad) := by
        unfold Hid; rw [HX.out]; show (mu s B.sc 41).bad = _
        rw [mu_of_bad 41 (by omega)]
      cases c
      · go_wp2
        go_ret2
        exact ⟨fun h => absurd h (by rw [HB.out]; omega), fun _ => ⟨_, rfl, mv', g', hR3, by rw [HB.out]; exact hat, hS3'⟩⟩
      · obtain ⟨hSt, p, rfl⟩ := hst rfl
        have h41 := hSt.n41 (by omega)
        have hq := hSt.sgB h41
        have hq2 := hSt.sg h41
        go_wp2_with fail
        refine (takeSign_any b s mv' g' 41 _ hR3 hs hSt.iv hSt.bad (by decide)).mono ?_
        rintro e w4 ⟨rfl, hR4, hK4⟩
        rw [hq2] at hR4
        rw [hq]
        go_wp2
        go_ret2
        exact ⟨fun h => absurd h (by rw [HB.out]; omega), fun _ => ⟨_, rfl, mv', g', hR4, by rw [HB.out]; exact hat, hS3'.trans (Cs.only (mv := mv') hK4)⟩⟩
  · have HX : Hid ((brM s ch A).1.sc.bad = A.sc.at_) := by unfold Hid brM; rw [if_neg h5]; show (wr A.sc).bad = _; rw [wr_eq hb]
    have q5 : ((A.sc.op : Int) == 5) = true := beq_iff_eq.2 (by omega)
    clear hch hgd
    go_enter Tryz.func203, Tryz.ntmps203
    go_wp2
    go_ret2
    exact ⟨fun h => absurd h (by rw [HX.out]; omega), fun _ => ⟨_, rfl, mv, A.sc, hC.ris, by rw [HX.out], Cs.refl _ _ _⟩⟩
end Go.Proofs.YtagklnaaoclmhaaGreatDoor

namespace Go.Proofs.YtagklnaaoclmhaaGreatDoor
open Go.RowKit

/-- Where the names grew. -/
theorem CR.cs {w w' : World} {base b : Nat} {s : ByteArray} {mv mv' : Mv} {T : Nat → Prop} {P : List Nat} {ms ms' : List Mn} {A : St} (h : CR w base b s mv T P ms A) (hS : Cs b mv mv' w w') {g : Sc} (hR : Ris w' b s mv' g) (ho : w'.ownsRow base 198 3 mv'.v ms'.length (ms'.flatMap (mnC P))) (hnb : mv'.v.ownBlock ≠ some b) (hLe : mv'.L = mv.L)
    (hm : ∀ m ∈ ms', ∀ i, m.part = some i → i < P.length) (ht : g.t ≤ 40) (hl : ms'.length ≤ A.ns.length + 8) : CR w' base b s mv' T P ms' { A with sc := g } := by
  have hdj : ∀ j, j < w.heap.size → (j ≠ b ∧ mv.v.ownBlock ≠ some j ∧ ¬ T j) → ¬ (j = b ∨ mv.v.ownBlock = some j) := fun j _ x y => ?_
  refine ⟨hR, ho, hnb, h.ar.kept hS.kept hdj (fun j hj x => ⟨x.1, fun hx => ?_, x.2.2⟩), fun k hk' => Nat.lt_of_lt_of_le (h.told k hk') hS.kept.size, hm, h.bb, ht, hl, by rw [hLe]; exact h.bk.kept h.ar hS.kept hdj⟩
  rotate_left
  · rcases y with y | y
    · exact x.1 y
    · exact x.2.1 y
  · rcases hS.own j hx with y | y
    · exact x.2.1 y
    · omega

theorem POut.shape {w w' : World} {base b : Nat} {s : ByteArray} {mv : Mv} {T : Nat → Prop} {P : List Nat} {ms : List Mn} {A : St} {X : St × Nat} {e : Ending} (h : POut base b s mv T P ms A w X e w') : ∃ v c, e = .returned (.tuple #[v, .bool c]) := by
  rcases Int.lt_or_le X.1.sc.bad 0 with hx | hx
  · obtain ⟨mv', P2, l, h1, _⟩ := h.ok hx; exact ⟨_, _, h1⟩
  · obtain ⟨v, h1, _⟩ := h.no hx; exact ⟨_, _, h1⟩

theorem nx_pk {s : ByteArray} {g : Sc} (hb : g.bad < 0) (ha : g.at_ ≤ s.size) {c : Nat} (hc : 0 < c) : (nx s g.at_ == (c : Int)) = decide (pk s g = c) := by
  rw [← pk_nx hb ha hc]; rfl

set_option maxRecDepth 100000 in
set_option maxHeartbeats 1600000 in
theorem part_code {s : ByteArray} {ch : St → St × Nat} {d : Nat} (hch : d = 0 ∨ ChSaid 141 s ch (d - 1)) (hgd : d = 0 ∨ Good s ch (d - 1)) (base b : Nat) (mv : Mv) (T : Nat → Prop) (P : List Nat) (ms : List Mn) (A : St) (w : World) (hC : CR w base b s mv T P ms A) (hO : Ok s A) (hb : A.sc.bad < 0) (hd : 5 ≤ A.sc.op + d) :
    Calls Tryz.prog 199 #[.pointer (some ⟨b, 0, none⟩)] w fun e w' => POut base b s mv T P ms A w (partM s ch A) e w' := by
  have hs := hO.size
  have hO1 := hO.sc (Fs.bl hO.iv) (bl_t s A.sc)
  have hb1 : (bl s A.sc).bad < 0 := by rw [bl_bad]; exact hb
  have hd1 : 5 ≤ (bl s A.sc).op + d := by rw [bl_op]; exact hd
  have ht1 : (bl s A.sc).t ≤ 40 := by rw [bl_t]; exact hC.t40
  have hbl := bl_idem s A.sc
  have HP : Hid (partM s ch A = partM s ch A) := rfl
  have hpM : partM s ch A = if letterB (pk s (bl s A.sc)) then addN { A with sc := (word s (bl s A.sc)).2 } { nd0 with kind := 3, name := (word s (bl s A.sc)).1, at_ := (bl s A.sc).at_ }
    else if pk s (bl s A.sc) = 46 ∨ pk s (bl s A.sc) = 39 ∨ pk s (bl s A.sc) = 91 then tmM s { A with sc := bl s A.sc }
    else if pk s (bl s A.sc) = 40 then brM s ch { A with sc := bl s A.sc }
    else addN { A with sc := wr (bl s A.sc) } nd0 := by
    unfold partM tmM brM
    dsimp only
    split
    · rfl
    · by_cases h46 : pk s (bl s A.sc) = 46
      · simp [h46]
      · by_cases h39 : pk s (bl s A.sc) = 39
        · simp [h39]
        · by_cases h91 : pk s (bl s A.sc) = 91
          · simp [h91]
          · by_cases h40 : pk s (bl s A.sc) = 40
            · simp [h40]
            · simp [h46, h39, h91, h40]
  have hword : word s (bl s A.sc) = wd s 10 [] (bl s A.sc) := by unfold word; rw [hbl]
  rw [hword] at hpM
  have HM := hide hpM
  clear hpM hword hbl HP
  go_enter Tryz.func199, Tryz.ntmps199
  go_wp2_with fail
  refine (skipBlanks_any b s mv A.sc _ hC.ris hs (hO.iv.1 hb) hb).mono ?_
  rintro e w1 ⟨rfl, hR1, hK1⟩
  have hC1 := hC.only hK1 hR1 ht1
  have hi1 := hO1.iv
  have hop1 := bl_op s A.sc
  generalize bl s A.sc = g at *
  dsimp only at *
  have hga := hi1.1 hb1
  go_wp2_with fail
  refine (next_any b s mv g _ hR1 hs hga).mono ?_
  rintro e w2 ⟨rfl, n2, rfl⟩
  have hK2 := hK1.drewN n2
  have hC2 : CR (w1.drewN n2) base b s mv T P ms { A with sc := g } := hC.only hK2 (hR1.drewN n2) ht1
  have q39 := nx_pk (s := s) hb1 hga (c := 39) (by decide)
  have q91 := nx_pk (s := s) hb1 hga (c := 91) (by decide)
  have q46 := nx_pk (s := s) hb1 hga (c := 46) (by decide)
  have q40 := nx_pk (s := s) hb1 hga (c := 40) (by decide)
  have hS2 : Cs b mv mv w (w1.drewN n2) := Cs.only hK2
  clear hC1 hK1 hR1
  generalize w1.drewN n2 = w2 at *
  by_cases hT : pk s g = 46 ∨ pk s g = 39 ∨ pk s g = 91
  · have HX : Hid (partM s ch A = tmM s { A with sc := g }) := by
      unfold Hid; rw [HM.out, if_neg, if_pos hT]
      rcases hT with h | h | h <;> rw [h] <;> decide
    clear HM
    have hN : nx s g.at_ = 46 ∨ nx s g.at_ = 39 ∨ nx s g.at_ = 91 := by
      rcases hT with h | h | h
      · left; rw [h] at q46; simpa using q46
      · right; left; rw [h] at q39; simpa using q39
      · right; right; rw [h] at q91; simpa using q91
    have hterm := termT_any base b s mv T P ms { A with sc := g } w2 hC2 hs hi1 hb1 hT
    clear q39 q91 q46 q40 hT
    rcases hN with h | h | h
    all_goals
      rw [h]
      clear h
      go_wp2_with fail
      refine hterm.mono ?_
      intro e w3 hOut
      obtain ⟨v, c, rfl⟩ := hOut.shape
      go_wp2
      go_ret2
      rw [HX.out]
      exact hOut.pre hS2
  · have e39 : (nx s g.at_ == (39 : Int)) = false := by rw [show (39 : Int) = ((39 : Nat) : Int) from rfl, q39]; simp; omega
    have e91 : (nx s g.at_ == (91 : Int)) = false := by rw [show (91 : Int) = ((91 : Nat) : Int) from rfl, q91]; simp; omega
    have e46 : (nx s g.at_ == (46 : Int)) = false := by rw [show (46 : Int) = ((46 : Nat) : Int) from rfl, q46]; simp; omega
    by_cases h40 : pk s g = 40
    · have HX : Hid (partM s ch A = brM s ch { A with sc := g }) := by
        unfold Hid; rw [HM.out, if_neg, if_neg hT, if_pos h40]
        rw [h40]; decide
      have hN : nx s g.at_ = 40 := by rw [h40] at q40; simpa using q40
      have hbr := bracket_any hch hgd base b mv T P ms { A with sc := g } w2 hC2 hO1 hb1 hd1 h40
      clear HM q39 q91 q46 q40 hT e39 e91 e46
      rw [hN]
      clear hN
      go_wp2_with fail
      refine hbr.mono ?_
      intro e w3 hOut
      obtain ⟨v, c, rfl⟩ := hOut.shape
      go_wp2
      go_ret2
      rw [HX.out]
      exact hOut.pre hS2
    · have e40 : (nx s g.at_ == (40 : Int)) = false := by rw [show (40 : Int) = ((40 : Nat) : Int) from rfl, q40]; simp; omega
      clear q39 q91 q46 q40
      obtain ⟨L, hL⟩ : ∃ L, wd s 10 [] g = L := ⟨_, rfl⟩
      have hLt : L.2.t = g.t := by rw [← hL]; exact (wd_facts 10 [] g hi1).2.2.2.1
      have HX : Hid ((L.2.bad < 0 → partM s ch A = addN { A with sc := L.2 } { nd0 with kind := 3, name := L.1, at_ := g.at_ }) ∧ (partM s ch A).1.sc = L.2) := by
        unfold Hid
        rw [HM.out, if_neg hT, if_neg h40, hL]
        by_cases hlb : letterB (pk s g : Int) = true
        · rw [if_pos hlb]; exact ⟨fun _ => rfl, rfl⟩
        · have hL2 : L = ([], wr g) := by rw [← hL, wd, if_neg hlb]; simp
          rw [if_neg hlb, hL2]
          exact ⟨fun h => absurd (show (wr g).bad < 0 from h) (by rw [wr_eq hb1]; show ¬ ((g.at_ : Int) < 0); omega), rfl⟩
      have hlenP : P.length = A.ns.length := hC.ar.len
      have hC3 := hC2.add { nd0 with kind := 3, name := L.1, at_ := g.at_ } (World.ownsRow_nil _ _ _ _) (by simp [Value.ownBlock]) (World.ownsRow_nil _ _ _ _) (by simp [Value.ownBlock]) (by simp [nd0]) (by simp [nd0])
      have hname := name_any base b s mv ms.length _ g (some ⟨w2.heap.size, 0, none⟩) _ hC3.ris hC3.own hC3.nb hC3.bb hs hi1 hb1 (by have := hC.mlen; have := hO.len; omega)
      rw [hL] at hname
      clear HM hT hL
      generalize nx s g.at_ = xx at *
      go_wp2_with fail
      refine (partOf_any _ _ _ _ _).mono ?_
      rintro e w3 ⟨rfl, rfl⟩
      go_wp2_with fail
      refine hname.mono ?_
      intro e w4 hOut
      obtain ⟨t, rfl, htx⟩ := hOut.res
      go_wp2
      go_ret2
      have hS3 : Cs b mv mv w (w2.alloc (.cells (ptC 0 0 0 ⟨#[]⟩ (.slice none 0 0) (.slice none 0 0)) 203)) := hS2.trans (Cs.only ((Kept.refl (· = b) w2).alloc _))
      refine ⟨fun hg => ?_, fun hg => ?_⟩
      · rw [HX.out.2] at hg
        obtain ⟨mv', hR4, hO4, hnb4, hS4, hLe4⟩ := hOut.ok hg
        rw [HX.out.1 hg]
        have hm : mns A.ns.length [{ nd0 with kind := 3, name := L.1, at_ := g.at_ }] = [⟨L.1, g.at_, some A.ns.length⟩] := by simp [mns, nd0]
        have hgd1 : (P ++ [w2.heap.size]).getD A.ns.length 0 = w2.heap.size := by rw [getD_app_r (by omega), hlenP]; simp
        refine ⟨mv', [w2.heap.size], [{ nd0 with kind := 3, name := L.1, at_ := g.at_ }], ?_, rfl, ?_, hS3.trans hS4, by simp [addN], fun h4 => absurd h4 (by simp [addN, nd0])⟩
        · rw [show decide (L.2.bad < 0) = true by simpa using hg]
          unfold ptrAt addN
          simp only
          rw [hgd1]
          rfl
        · rw [hm]
          refine hC3.cs hS4 hR4 ?_ hnb4 hLe4 ?_ (show L.2.t ≤ 40 by omega) (by have := hC.mlen; simp; omega)
          · rw [List.flatMap_append, List.length_append]
            have : [(⟨L.1, g.at_, some A.ns.length⟩ : Mn)].flatMap (mnC (P ++ [w2.heap.size])) = [.string (ba L.1), .int .i64 (g.at_ : Int), .pointer (some ⟨w2.heap.size, 0, none⟩)] := by
              simp only [List.flatMap_cons, List.flatMap_nil, List.append_nil, mnC, Option.map_some]
              rw [hgd1]
            rw [this]
            exact hO4
          · intro m hm' i hi'
            rcases List.mem_append.1 hm' with h | h
            · exact hC3.mlt m h i hi'
            · rw [List.mem_singleton.1 h] at hi'
              have := Option.some.inj hi'
              simp; omega
      · rw [HX.out.2] at hg ⊢
        exact ⟨.pointer (some ⟨w2.heap.size, 0, none⟩), by rw [show decide (L.2.bad < 0) = false by simp; omega]; rfl, (hOut.no hg).pre hS3⟩
end Go.Proofs.YtagklnaaoclmhaaGreatDoor

namespace Go.Proofs.YtagklnaaoclmhaaGreatDoor
open Go.RowKit

/-- A part around a part. -/
theorem CR.wrap {w : World} {base b : Nat} {s : ByteArray} {mv : Mv} {T : Nat → Prop} {P : List Nat} {ms : List Mn} {A : St} (h : CR w base b s mv T P ms A) {x : Nat} (hx : x < A.ns.length) (hx4 : (A.ns.getD x nd0).kind = 4 → P.getD x 0 ∈ mv.L) (k : Nat) (hk : 4 ≤ k) :
    CR ((w.alloc (.cells #[ptrAt P x] 187)).alloc (.cells (ptC (k : Int) 0 0 ⟨#[]⟩ (.slice none 0 0) (.slice (some ⟨w.heap.size, 0, none⟩) 1 1)) 203)) base b s mv T (P ++ [w.heap.size + 1]) ms { A with ns := A.ns ++ [{ nd0 with kind := k, subs := [x] }] } := by
  have hb := h.lt
  have hbb := h.bb
  have h1 := h.only ((Kept.refl (· = b) w).alloc (.cells #[ptrAt P x] 187)) (h.ris.alloc _) h.t40
  have h2 := h1.add { nd0 with kind := k, subs := [x] } (vR := .slice none 0 0) (vP := .slice (some ⟨w.heap.size, 0, none⟩) 1 1) (World.ownsRow_nil _ _ _ _) (by simp [Value.ownBlock]) ?_ ?_ ?_ (fun j hj => by rw [List.mem_singleton.1 hj]; exact hx4)
  · have hkc : kcode k = (k : Int) := by unfold kcode; rw [if_neg (by omega), if_neg (by omega)]
    rw [show ({ nd0 with kind := k, subs := [x] } : Nd).kind = k from rfl, hkc] at h2
    have hz : (w.alloc (.cells #[ptrAt P x] 187)).heap.size = w.heap.size + 1 := by simp
    rw [hz] at h2
    exact h2
  · exact World.ownsRow_lit w #[ptrAt P x] 1 (by omega) (by decide) (by rfl)
  · intro j hj
    have : w.heap.size = j := Option.some.inj hj
    subst this
    exact ⟨by omega, fun hx => by have := (h.own.lt _ hx).2; omega, fun hx => Nat.lt_irrefl _ (h.told _ hx)⟩
  · intro j hj
    rw [List.mem_singleton.1 hj]; exact hx

theorem sgB_pk {s : ByteArray} {g : Sc} (hb : g.bad < 0) (hi : Iv s g) {c : Nat} (hc : 0 < c) : sgB s g c = decide (pk s (bl s g) = c) := by
  have hb1 : (bl s g).bad < 0 := by rw [bl_bad]; exact hb
  rw [← pk_nx hb1 (hi.bl.1 hb1) hc, tkB_eq hb1 (hi.bl.1 hb1)]; rfl

/-- What a wrapped part is. -/
theorem POut.wrap {w w' : World} {base b : Nat} {s : ByteArray} {mv mv' : Mv} {T : Nat → Prop} {P P2 : List Nat} {ms : List Mn} {A B : St} {l : List Nd} {x k q : Nat} {g : Sc} {e : Ending} (hg : g.bad < 0) (hk : 5 ≤ k) (hns : B.ns = A.ns ++ l) (hl : P.length = A.ns.length) (hl2 : (P ++ P2).length = B.ns.length)
    (hC : CR w' base b s mv' T (P ++ P2 ++ [q]) (ms ++ mns A.ns.length l) ⟨g, B.ns ++ [{ nd0 with kind := k, subs := [x] }]⟩) (hS : Cs b mv mv' w w') (he : e = .returned (.tuple #[.pointer (some ⟨q, 0, none⟩), .bool true])) :
    POut base b s mv T P ms A w (addN { B with sc := g } { nd0 with kind := k, subs := [x] }) e w' := by
  refine ⟨fun _ => ⟨mv', P2 ++ [q], l ++ [{ nd0 with kind := k, subs := [x] }], ?_, ?_, ?_, hS, by simp [addN], fun h4 => absurd (by simpa [addN] using h4) (show k ≠ 4 by omega)⟩, fun h => absurd (show 0 ≤ g.bad from h) (by omega)⟩
  · rw [he]; unfold ptrAt addN; simp only; rw [← List.append_assoc, getD_app_r (by omega), hl2]; simp
  · show B.ns ++ _ = _
    rw [hns, List.append_assoc]
  · rw [mns_app, mns_none (show k ≠ 3 by omega), List.append_nil, ← List.append_assoc]; exact hC

set_option maxRecDepth 100000 in
set_option maxHeartbeats 1600000 in
theorem repeated_code {s : ByteArray} {ch : St → St × Nat} {d : Nat} (hch : d = 0 ∨ ChSaid 141 s ch (d - 1)) (hgd : d = 0 ∨ Good s ch (d - 1)) (base b : Nat) (mv : Mv) (T : Nat → Prop) (P : List Nat) (ms : List Mn) (A : St) (w : World) (hC : CR w base b s mv T P ms A) (hO : Ok s A) (hb : A.sc.bad < 0) (hd : 5 ≤ A.sc.op + d) :
    Calls Tryz.prog 190 #[.pointer (some ⟨b, 0, none⟩)] w fun e w' => POut base b s mv T P ms A w (repM s (partM s ch A)) e w' := by
  have hs := hO.size
  have hfc := part_fc (s := s) hgd hO.iv hd
  have hpart := part_code hch hgd base b mv T P ms A w hC hO hb hd
  have hlenP : P.length = A.ns.length := hC.ar.len
  generalize partM s ch A = X at *
  obtain ⟨B, x⟩ := X
  dsimp only at *
  have hiB := hfc.iv
  clear hch hgd hfc
  go_enter Tryz.func190, Tryz.ntmps190
  go_wp2_with fail
  refine hpart.mono ?_
  intro e w1 hOut
  by_cases hbB : B.sc.bad < 0
  · obtain ⟨mv', P2, l, rfl, hns, hC1, hS1, hx, hx4⟩ := hOut.ok hbB
    dsimp only at *
    have hl2 := hC1.ar.len
    have ht1 := hC1.t40
    have k63 := sgB_pk hbB hiB (c := 63) (by decide)
    have hbl : (bl s B.sc).bad < 0 := by rw [bl_bad]; exact hbB
    have htl : (bl s B.sc).t ≤ 40 := by rw [bl_t]; exact ht1
    have k42 := sgB_pk hbl hiB.bl (c := 42) (by decide)
    have k43 := sgB_pk hbl hiB.bl (c := 43) (by decide)
    rw [bl_idem] at k42 k43
    have hsg : ∀ c, sgB s B.sc c = true → sg s B.sc c = adv (bl s B.sc) := fun c h => by unfold sg; rw [h]; rfl
    have hsf : ∀ c, sgB s B.sc c = false → sg s B.sc c = bl s B.sc := fun c h => by unfold sg; rw [h]; rfl
    have hsg2 : ∀ c, sgB s (bl s B.sc) c = true → sg s (bl s B.sc) c = adv (bl s B.sc) := fun c h => by unfold sg; rw [h, bl_idem]; rfl
    have hsf2 : ∀ c, sgB s (bl s B.sc) c = false → sg s (bl s B.sc) c = bl s B.sc := fun c h => by unfold sg; rw [h, bl_idem]; rfl
    have hba : (adv (bl s B.sc)).bad < 0 := hbl
    have hta : (adv (bl s B.sc)).t ≤ 40 := htl
    have hwrap : ∀ k, 4 ≤ k → kindOf (pk s (bl s B.sc)) = k → repM s (B, x) = addN { B with sc := adv (bl s B.sc) } { nd0 with kind := k, subs := [x] } := by
      intro k hk h; unfold repM; dsimp only; rw [h, if_pos (by omega)]
    have hR1 := hC1.ris
    have hib := hiB.bl
    go_wp2_with fail
    refine (takeSign_any b s mv' B.sc 63 _ hR1 hs hiB hbB (by decide)).mono ?_
    rintro e w2 ⟨rfl, hR2, hK2⟩
    by_cases h63 : pk s (bl s B.sc) = 63
    · have hq : sgB s B.sc 63 = true := by rw [k63]; simpa using h63
      rw [hsg 63 hq] at hR2
      rw [hq]
      have hC2 := hC1.only hK2 hR2 hta
      have hW := hC2.wrap (x := x) hx hx4 6 (by decide)
      have HX := hide (hwrap 6 (by decide) (by unfold kindOf; rw [if_pos h63]))
      have hS2 := hS1.trans (Cs.only (mv := mv') hK2)
      clear k63 k42 k43 hsg hsf hsg2 hsf2 hwrap hOut hpart
      unfold ptrAt at *
      go_wp2_with fail
      refine (partOf_any _ _ _ _ _).mono ?_
      rintro e w3 ⟨rfl, rfl⟩
      go_wp2
      go_ret2
      rw [HX.out]
      refine POut.wrap hba (by decide) hns hlenP hl2 hW ?_ ?_
      · exact hS2.trans (Cs.only (((Kept.refl (· = b) w2).alloc _).alloc _))
      · simp
    · have hq : sgB s B.sc 63 = false := by rw [k63]; simpa using h63
      rw [hsf 63 hq] at hR2
      rw [hq]
      have hC2 := hC1.only hK2 hR2 htl
      have hS2 := hS1.trans (Cs.only (mv := mv') hK2)
      go_wp2_with fail
      refine (takeSign_any b s mv' (bl s B.sc) 42 _ hR2 hs hib hbl (by decide)).mono ?_
      rintro e w3 ⟨rfl, hR3, hK3⟩
      by_cases h42 : pk s (bl s B.sc) = 42
      · have hq : sgB s (bl s B.sc) 42 = true := by rw [k42]; simpa using h42
        rw [hsg2 42 hq] at hR3
        rw [hq]
        have hC3 := hC2.only hK3 hR3 hta
        have hW := hC3.wrap (x := x) hx hx4 7 (by decide)
        have HX := hide (hwrap 7 (by decide) (by unfold kindOf; rw [if_neg h63, if_pos h42]))
        have hS3 := hS2.trans (Cs.only (mv := mv') hK3)
        clear k63 k42 k43 hsg hsf hsg2 hsf2 hwrap hOut hpart
        unfold ptrAt at *
        go_wp2_with fail
        refine (partOf_any _ _ _ _ _).mono ?_
        rintro e w4 ⟨rfl, rfl⟩
        go_wp2
        go_ret2
        rw [HX.out]
        refine POut.wrap hba (by decide) hns hlenP hl2 hW ?_ ?_
        · exact hS3.trans (Cs.only (((Kept.refl (· = b) w3).alloc _).alloc _))
        · simp
      · have hq : sgB s (bl s B.sc) 42 = false := by rw [k42]; simpa using h42
        rw [hsf2 42 hq] at hR3
        rw [hq]
        have hC3 := hC2.only hK3 hR3 htl
        have hS3 := hS2.trans (Cs.only (mv := mv') hK3)
        go_wp2_with fail
        refine (takeSign_any b s mv' (bl s B.sc) 43 _ hR3 hs hib hbl (by decide)).mono ?_
        rintro e w4 ⟨rfl, hR4, hK4⟩
        have hS4 := hS3.trans (Cs.only (mv := mv') hK4)
        by_cases h43 : pk s (bl s B.sc) = 43
        · have hq : sgB s (bl s B.sc) 43 = true := by rw [k43]; simpa using h43
          rw [hsg2 43 hq] at hR4
          rw [hq]
          have hC4 := hC3.only hK4 hR4 hta
          have hW := hC4.wrap (x := x) hx hx4 8 (by decide)
          have HX := hide (hwrap 8 (by decide) (by unfold kindOf; rw [if_neg h63, if_neg h42, if_pos h43]))
          clear k63 k42 k43 hsg hsf hsg2 hsf2 hwrap hOut hpart
          unfold ptrAt at *
          go_wp2_with fail
          refine (partOf_any _ _ _ _ _).mono ?_
          rintro e w5 ⟨rfl, rfl⟩
          go_wp2
          go_ret2
          rw [HX.out]
          refine POut.wrap hba (by decide) hns hlenP hl2 hW ?_ ?_
          · exact hS4.trans (Cs.only (((Kept.refl (· = b) w4).alloc _).alloc _))
          · simp
        · have hq : sgB s (bl s B.sc) 43 = false := by rw [k43]; simpa using h43
          rw [hsf2 43 hq] at hR4
          rw [hq]
          have hC4 := hC3.only hK4 hR4 htl
          have HX : Hid (repM s (B, x) = ({ B with sc := bl s B.sc }, x)) := by
            unfold Hid repM kindOf; dsimp only; rw [if_neg h63, if_neg h42, if_neg h43]; rfl
          clear k63 k42 k43 hsg hsf hsg2 hsf2 hwrap hOut hpart
          go_wp2
          go_ret2
          rw [HX.out]
          exact ⟨fun _ => ⟨mv', P2, l, rfl, hns, hC4, hS4, hx, hx4⟩, fun h => absurd (show 0 ≤ (bl s B.sc).bad from h) (by omega)⟩
  · obtain ⟨v, rfl, hF⟩ := hOut.no (show 0 ≤ B.sc.bad by omega)
    dsimp only at *
    have HX : Hid ((repM s (B, x)).1.sc.bad = B.sc.bad) := by
      have hpk : pk s B.sc = 0 := by unfold pk; rw [if_neg (fun h => hbB h.1)]
      unfold Hid repM; dsimp only; rw [bl_of_bad (by omega), hpk]; rfl
    clear hpart
    go_wp2
    go_ret2
    exact ⟨fun h => absurd h (by rw [HX.out]; omega), fun _ => ⟨_, rfl, by rw [HX.out]; exact hF⟩⟩
end Go.Proofs.YtagklnaaoclmhaaGreatDoor

namespace Go.Proofs.YtagklnaaoclmhaaGreatDoor
open Go.RowKit

set_option maxRecDepth 100000 in
set_option maxHeartbeats 1600000 in
/-- item, behind its first signs. -/
theorem item_tail {s : ByteArray} {base b : Nat} {mv : Mv} {T : Nat → Prop} {P : List Nat} {ms : List Mn} {A : St} {g : Sc} {w w2 : World} {X : St × Nat} (hlenP : P.length = A.ns.length) (hS : Cs b mv mv w w2)
    {e : Ending} {w3 : World} (hOut : POut base b s mv T P ms { A with sc := g } w2 X e w3) (k : Nat) (hk : k = 9 ∨ k = 10) (hg : X.1.sc.bad < 0) :
    ∃ q, e = .returned (.tuple #[.pointer (some ⟨q, 0, none⟩), .bool true]) ∧
      POut base b s mv T P ms A w (aheadM k X) (.returned (.tuple #[.pointer (some ⟨w3.heap.size + 1, 0, none⟩), .bool true])) ((w3.alloc (.cells #[.pointer (some ⟨q, 0, none⟩)] 187)).alloc (.cells (ptC (k : Int) 0 0 ⟨#[]⟩ (.slice none 0 0) (.slice (some ⟨w3.heap.size, 0, none⟩) 1 1)) 203)) := by
  obtain ⟨mv', P2, l, rfl, hns, hC1, hS1, hx, hx4⟩ := hOut.ok hg
  refine ⟨(P ++ P2).getD X.2 0, rfl, ?_⟩
  have hW := hC1.wrap hx hx4 k (by omega)
  have : aheadM k X = addN { X.1 with sc := X.1.sc } { nd0 with kind := k, subs := [X.2] } := by unfold aheadM; rw [if_pos (by omega)]
  rw [this]
  exact POut.wrap hg (by omega) hns hlenP hC1.ar.len hW ((hS.trans hS1).trans (Cs.only (((Kept.refl (· = b) w3).alloc _).alloc _))) rfl

theorem ahead_bad {k : Nat} {X : St × Nat} : (aheadM k X).1.sc = X.1.sc := by unfold aheadM; split <;> rfl

set_option maxRecDepth 100000 in
set_option maxHeartbeats 1600000 in
theorem item_code {s : ByteArray} {ch : St → St × Nat} {d : Nat} (hch : d = 0 ∨ ChSaid 141 s ch (d - 1)) (hgd : d = 0 ∨ Good s ch (d - 1)) (base b : Nat) (mv : Mv) (T : Nat → Prop) (P : List Nat) (ms : List Mn) (A : St) (w : World) (hC : CR w base b s mv T P ms A) (hO : Ok s A) (hb : A.sc.bad < 0) (hd : 5 ≤ A.sc.op + d) :
    Calls Tryz.prog 177 #[.pointer (some ⟨b, 0, none⟩)] w fun e w' => POut base b s mv T P ms A w (itemM s ch A) e w' := by
  have hs := hO.size
  have hlenP : P.length = A.ns.length := hC.ar.len
  have hi1 := hO.iv.sg 38
  have hb1 : (sg s A.sc 38).bad < 0 := by rw [sg_bad]; exact hb
  have ht1 : (sg s A.sc 38).t ≤ 40 := by rw [sg_t]; exact hC.t40
  have hO1 := hO.sc (Fs.sg hO.iv 38) (sg_t s A.sc 38)
  have hd1 : 5 ≤ (sg s A.sc 38).op + d := by rw [sg_op]; exact hd
  have hb2 : (sg s (sg s A.sc 38) 33).bad < 0 := by rw [sg_bad]; exact hb1
  have ht2 : (sg s (sg s A.sc 38) 33).t ≤ 40 := by rw [sg_t]; exact ht1
  have hO2 := hO1.sc (Fs.sg hi1 33) (sg_t s _ 33)
  have hd2 : 5 ≤ (sg s (sg s A.sc 38) 33).op + d := by rw [sg_op]; exact hd1
  go_enter Tryz.func177, Tryz.ntmps177
  go_wp2_with fail
  refine (takeSign_any b s mv A.sc 38 _ hC.ris hs hO.iv hb (by decide)).mono ?_
  rintro e w1 ⟨rfl, hR1, hK1⟩
  have hC1 := hC.only hK1 hR1 ht1
  cases hq1 : sgB s A.sc 38
  · go_wp2_with fail
    refine (takeSign_any b s mv (sg s A.sc 38) 33 _ hR1 hs hi1 hb1 (by decide)).mono ?_
    rintro e w2 ⟨rfl, hR2, hK2⟩
    have hC2 := hC1.only hK2 hR2 ht2
    have hS2 : Cs b mv mv w w2 := Cs.only (hK1.trans hK2)
    cases hq2 : sgB s (sg s A.sc 38) 33
    · have HX : Hid (itemM s ch A = repM s (partM s ch { A with sc := sg s (sg s A.sc 38) 33 })) := by
        unfold Hid itemM aheadM aheadK aheadS; rw [hq1, hq2]; rfl
      have hrep := repeated_code hch hgd base b mv T P ms { A with sc := sg s (sg s A.sc 38) 33 } w2 hC2 hO2 hb2 hd2
      generalize repM s (partM s ch { A with sc := sg s (sg s A.sc 38) 33 }) = X at *
      go_wp2_with fail
      refine hrep.mono ?_
      intro e w3 hOut
      rcases Int.lt_or_le X.1.sc.bad 0 with hx | hx
      · obtain ⟨mv', P2, l, rfl, _⟩ := hOut.ok hx
        unfold ptrAt at *
        go_wp2
        go_ret2
        rw [HX.out]
        exact hOut.pre hS2
      · obtain ⟨v, rfl, hF⟩ := hOut.no hx
        go_wp2
        go_ret2
        rw [HX.out]
        exact ⟨fun h => absurd h (by omega), fun _ => ⟨_, rfl, hF.pre hS2⟩⟩
    · have HX : Hid (itemM s ch A = aheadM 10 (repM s (partM s ch { A with sc := sg s (sg s A.sc 38) 33 }))) := by
        unfold Hid itemM aheadK aheadS; rw [hq1, hq2]; rfl
      have hrep := repeated_code hch hgd base b mv T P ms { A with sc := sg s (sg s A.sc 38) 33 } w2 hC2 hO2 hb2 hd2
      generalize repM s (partM s ch { A with sc := sg s (sg s A.sc 38) 33 }) = X at *
      go_wp2_with fail
      refine hrep.mono ?_
      intro e w3 hOut
      rcases Int.lt_or_le X.1.sc.bad 0 with hx | hx
      · obtain ⟨q, rfl, hT⟩ := item_tail hlenP hS2 hOut 10 (Or.inr rfl) hx
        clear hOut
        go_wp2_with fail
        refine (partOf_any _ _ _ _ _).mono ?_
        rintro e w4 ⟨rfl, rfl⟩
        go_wp2
        go_ret2
        rw [HX.out]
        exact hT
      · obtain ⟨v, rfl, hF⟩ := hOut.no hx
        go_wp2
        go_ret2
        rw [HX.out]
        exact ⟨fun h => absurd h (by rw [ahead_bad]; omega), fun _ => ⟨_, rfl, by rw [ahead_bad]; exact hF.pre hS2⟩⟩
  · have HX : Hid (itemM s ch A = aheadM 9 (repM s (partM s ch { A with sc := sg s A.sc 38 }))) := by
      unfold Hid itemM aheadK aheadS; rw [hq1]; rfl
    have hS1 : Cs b mv mv w w1 := Cs.only hK1
    have hrep := repeated_code hch hgd base b mv T P ms { A with sc := sg s A.sc 38 } w1 hC1 hO1 hb1 hd1
    generalize repM s (partM s ch { A with sc := sg s A.sc 38 }) = X at *
    go_wp2_with fail
    refine hrep.mono ?_
    intro e w3 hOut
    rcases Int.lt_or_le X.1.sc.bad 0 with hx | hx
    · obtain ⟨q, rfl, hT⟩ := item_tail hlenP hS1 hOut 9 (Or.inl rfl) hx
      clear hOut
      go_wp2_with fail
      refine (partOf_any _ _ _ _ _).mono ?_
      rintro e w4 ⟨rfl, rfl⟩
      go_wp2
      go_ret2
      rw [HX.out]
      exact hT
    · obtain ⟨v, rfl, hF⟩ := hOut.no hx
      go_wp2
      go_ret2
      rw [HX.out]
      exact ⟨fun h => absurd h (by rw [ahead_bad]; omega), fun _ => ⟨_, rfl, by rw [ahead_bad]; exact hF.pre hS1⟩⟩
end Go.Proofs.YtagklnaaoclmhaaGreatDoor
