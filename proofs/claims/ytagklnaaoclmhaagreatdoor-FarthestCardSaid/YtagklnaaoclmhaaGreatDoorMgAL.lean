import Derived.Test.YtagklnaaoclmhaaGreatDoorMgAA
import Derived.Shelf.Strconv.Clone
import Derived.Test.YtagklnaaoclmhaaGreatDoorMgAK
import Derived.Test.YtagklnaaoclmhaaGreatDoorMgAI
set_option linter.unusedSimpArgs false
set_option linter.unusedVariables false
namespace Go.Proofs.YtagklnaaoclmhaaGreatDoor
open Go.RowKit Go.Shelf

/-- This program's numbers for the shelf's. -/
def renC : Ren := ⟨fun _ => 167, fun n => if n = 37 then 110 else if n = 127 then 302 else n, fun n => n⟩

theorem laysC : LaysM.n316 Tryz.prog renC where
  mixed := by kernel_rfl
  f316 := by kernel_rfl
  t0 := by kernel_rfl
  a0 := fun _ => by kernel_rfl
  z0 := fun _ => by kernel_rfl
  v0 := fun _ => by kernel_rfl
  t3 := by kernel_rfl
  a3 := fun _ => by kernel_rfl
  z3 := fun _ => by kernel_rfl
  v3 := fun _ => by kernel_rfl
  t4 := by kernel_rfl
  a4 := fun _ => by kernel_rfl
  z4 := fun _ => by kernel_rfl
  v4 := fun _ => by kernel_rfl
  t9 := by kernel_rfl
  a9 := fun _ => by kernel_rfl
  z9 := fun _ => by kernel_rfl
  v9 := fun _ => by kernel_rfl
  t37 := by kernel_rfl
  a37 := fun _ => by kernel_rfl
  z37 := fun _ => by kernel_rfl
  v37 := fun _ => by kernel_rfl
  t127 := by kernel_rfl
  a127 := fun _ => by kernel_rfl
  z127 := fun _ => by kernel_rfl
  v127 := fun _ => by kernel_rfl
  t5 := by kernel_rfl
  a5 := fun _ => by kernel_rfl
  z5 := fun _ => by kernel_rfl
  v5 := fun _ => by kernel_rfl
  i0 := by kernel_rfl
  i3 := by kernel_rfl
  i4 := by kernel_rfl
  i5 := by kernel_rfl
  i9 := by kernel_rfl
  i37 := by kernel_rfl
  i127 := by kernel_rfl

theorem clone2_any (s : ByteArray) (w : World) (hlim : s.size ≤ 400) :
    Calls Tryz.prog 167 #[.string s] w fun e w' => e = .returned (.string s) ∧ Below w.heap.size w w' :=
  Any.stringslite_Clone laysC s w (by omega)

theorem below_kept {w w' : World} (h : Below w.heap.size w w') : Kept (fun _ => False) w w' := ⟨h.os, h.tape, h.output, h.size, fun k hk _ => h.block k hk⟩
theorem clone_any (s : ByteArray) (w : World) (hlim : s.size ≤ 400) :
    Calls Tryz.prog 142 #[.string s] w fun e w' => e = .returned (.string s) ∧ Kept (fun _ => False) w w' := by
  go_enter Tryz.func142, Tryz.ntmps142
  go_wp2_with fail
  refine (clone2_any s _ hlim).mono ?_
  rintro e w1 ⟨rfl, hB⟩
  go_wp2
  go_ret
  exact ⟨rfl, below_kept hB⟩
end Go.Proofs.YtagklnaaoclmhaaGreatDoor

namespace Go.Proofs.YtagklnaaoclmhaaGreatDoor
open Go.RowKit

theorem wd_at {s : ByteArray} : ∀ f acc g, (wd s f acc g).2.at_ + acc.length = g.at_ + (wd s f acc g).1.length
  | 0, acc, g => rfl
  | f + 1, acc, g => by
    rw [wd]
    split
    · split
      · show (wr g).at_ + _ = _
        rw [wr_at]
      · have := wd_at (s := s) f (acc ++ [(pk s g).toUInt8]) (adv g)
        rw [List.length_append, adv_at] at this
        simp only [List.length_cons, List.length_nil] at this
        omega
    · show (if acc = [] then wr g else g).at_ + _ = _
      split
      · rw [wr_at]
      · rfl

/-- A block is set apart as it is made. -/
theorem CR.room {w : World} {base b : Nat} {s : ByteArray} {mv : Mv} {T : Nat → Prop} {P : List Nat} {ms : List Mn} {A : St} (h : CR w base b s mv T P ms A) (o : Obj) : CR (w.alloc o) base b s mv (fun k => T k ∨ k = w.heap.size) P ms A := by
  have hk : Kept (fun _ => False) w (w.alloc o) := (Kept.refl _ _).alloc _
  refine ⟨h.ris.alloc _, h.own.alloc _, h.nb, h.ar.kept hk (fun _ _ _ x => x) (fun j hj x => ⟨x.1, x.2.1, fun y => ?_⟩), fun k hk' => ?_, h.mlt, h.bb, h.t40, h.mlen, h.bk.kept h.ar hk (fun _ _ _ x => x)⟩
  · rcases y with y | y
    · exact x.2.2 y
    · omega
  · rcases hk' with y | y
    · have := h.told k y; simp; omega
    · rw [y]; simp
/-- Where only what is set apart changed. -/
theorem CR.off {S : Nat → Prop} {w w' : World} {base b : Nat} {s : ByteArray} {mv : Mv} {T : Nat → Prop} {P : List Nat} {ms : List Mn} {A : St} (h : CR w base b s mv T P ms A) (hk : Kept S w w') (h1 : ¬ S b) (h2 : ∀ j, mv.v.ownBlock = some j → ¬ S j) (h3 : ∀ j, S j → T j) : CR w' base b s mv T P ms A :=
  ⟨h.ris.kept hk h1, own_kept h.own hk (fun i hi e => h2 i hi e), h.nb, h.ar.kept hk (fun j _ x y => x.2.2 (h3 j y)) (fun _ _ x => x), fun k hk' => Nat.lt_of_lt_of_le (h.told k hk') hk.size, h.mlt, h.bb, h.t40, h.mlen, h.bk.kept h.ar hk (fun j _ x y => x.2.2 (h3 j y))⟩
theorem Cs.new {b : Nat} {mv mv' : Mv} {w w1 w2 : World} {k0 : Nat} (h : Cs b mv mv' w w1) (hk : Kept (· = k0) w1 w2) (hn : w.heap.size ≤ k0) : Cs b mv mv' w w2 :=
  ⟨⟨hk.os.trans h.kept.os, hk.tape.trans h.kept.tape, hk.output.trans h.kept.output, Nat.le_trans h.kept.size hk.size, fun i hi hs => by
    rw [hk.block i (Nat.lt_of_lt_of_le hi h.kept.size) (by omega)]; exact h.kept.block i hi hs⟩, h.own, h.pre⟩
theorem Cs.there {b : Nat} {mv mv' : Mv} {w w1 : World} {o : Obj} (h : Cs b mv mv' (w.alloc o) w1) (hb : b < w.heap.size) (hm : ∀ j, mv.v.ownBlock = some j → j < w.heap.size) : w1.heap[w.heap.size]? = some o := by
  rw [h.kept.block w.heap.size (by simp) (fun x => by
    rcases x with x | x
    · omega
    · have := hm _ x; omega)]
  exact heap_alloc_new _ _
theorem cells3 {w : World} {k t : Nat} {u v x : Value} (h : w.heap[k]? = some (.cells #[u, v, x] t)) : w.cell? ⟨k, 0, none⟩ = some u ∧ w.cell? ⟨k, 1, none⟩ = some v ∧ w.cell? ⟨k, 2, none⟩ = some x ∧ w.frozen? ⟨k, 0, none⟩ = false ∧ w.frozen? ⟨k, 1, none⟩ = false ∧ w.frozen? ⟨k, 2, none⟩ = false := by
  refine ⟨?_, ?_, ?_, ?_, ?_, ?_⟩ <;> simp [World.cell?, World.frozen?, h]
theorem kept3 (w : World) (k : Nat) (u v x : Value) : Kept (· = k) w (((w.setCell ⟨k, 0, none⟩ u).setCell ⟨k, 1, none⟩ v).setCell ⟨k, 2, none⟩ x) :=
  (((Kept.refl (· = k) w).setCell (p := ⟨k, 0, none⟩) (fun _ => rfl) _).setCell (p := ⟨k, 1, none⟩) (fun _ => rfl) _).setCell (p := ⟨k, 2, none⟩) (fun _ => rfl) _

/-- The cells of a rule. -/
def rlC (P : List Nat) (r : Rl) : List Value := [.string (ba r.name), .int .i64 (r.at_ : Int), ptrAt P r.is]
/-- What rule leaves. -/
structure RlOut (base b : Nat) (s : ByteArray) (mv : Mv) (T : Nat → Prop) (P : List Nat) (ms : List Mn) (A : St) (w : World) (X : St × Rl) (e : Ending) (w' : World) : Prop where
  ok : X.1.sc.bad < 0 → ∃ mv' P2 l, e = .returned (.tuple #[.agg (rlC (P ++ P2) X.2).toArray, .bool true]) ∧ X.1.ns = A.ns ++ l ∧ CR w' base b s mv' T (P ++ P2) (ms ++ [⟨X.2.name, X.2.at_, none⟩] ++ mns A.ns.length l) X.1 ∧ Cs b mv mv' w w' ∧ X.2.is < X.1.ns.length
  no : 0 ≤ X.1.sc.bad → ∃ c0 c1 c2, e = .returned (.tuple #[.agg #[.string c0, .int .i64 c1, .pointer c2], .bool false]) ∧ Fails w w' b s mv X.1.sc.bad

set_option maxRecDepth 100000 in
set_option maxHeartbeats 3200000 in
theorem rule_code (s : ByteArray) (base b : Nat) (mv : Mv) (T : Nat → Prop) (P : List Nat) (ms : List Mn) (A : St) (w : World) (hC : CR w base b s mv T P ms A) (hO : Ok s A) (ho : A.sc.op = 0) (hb : A.sc.bad < 0) (hm : ms.length + 1 ≤ A.ns.length + 8) :
    Calls Tryz.prog 95 #[.pointer (some ⟨b, 0, none⟩)] w fun e w' => RlOut base b s mv T P ms A w (ruleM s A) e w' := by
  have hs := hO.size
  obtain ⟨hOk1, -, -, hop1, -⟩ := rule_ok hO ho hb
  have hbw := hC.lt
  have hmw : ∀ j, mv.v.ownBlock = some j → j < w.heap.size := fun j hj => (hC.own.lt j hj).2
  have hC0 := hC.room (.cells #[.string ⟨#[]⟩, .int .i64 0, .pointer none] 189)
  have hS0 : Cs b mv mv w (w.alloc (.cells #[.string ⟨#[]⟩, .int .i64 0, .pointer none] 189)) := Cs.only ((Kept.refl (· = b) w).alloc _)
  have hb1 : (bl s A.sc).bad < 0 := by rw [bl_bad]; exact hb
  have ht1 : (bl s A.sc).t ≤ 40 := by rw [bl_t]; exact hC.t40
  have hi1 := hO.iv.bl
  have hX : ruleM s A = ({ (choD s 6 { A with sc := mu s (wd s 10 [] (bl s A.sc)).2 61 }).1 with sc := mu s (choD s 6 { A with sc := mu s (wd s 10 [] (bl s A.sc)).2 61 }).1.sc 10 }, ⟨(wd s 10 [] (bl s A.sc)).1, (bl s A.sc).at_, (choD s 6 { A with sc := mu s (wd s 10 [] (bl s A.sc)).2 61 }).2⟩) := by
    have := wd_at (s := s) 10 [] (bl s A.sc)
    simp only [List.length_nil, Nat.add_zero] at this
    unfold ruleM word
    rw [this, Nat.add_sub_cancel]
  have hwf := wd_facts (s := s) 10 [] (bl s A.sc) hi1
  have hl8 := wd_len8 (s := s) 10 [] (bl s A.sc) (by simp)
  unfold word at hOk1 hop1
  have hgood := choD_good s 5 { A with sc := mu s (wd s 10 [] (bl s A.sc)).2 61 } hOk1.iv (by rw [show ({ A with sc := mu s (wd s 10 [] (bl s A.sc)).2 61 } : St).sc.op = 0 from hop1]; decide)
  go_enter Tryz.func95, Tryz.ntmps95
  go_wp2_with fail
  refine (skipBlanks_any b s mv A.sc _ hC0.ris hs (hO.iv.1 hb) hb).mono ?_
  rintro e w1 ⟨rfl, hR1, hK1⟩
  have hC1 := hC0.only hK1 hR1 ht1
  have hS1 := Cs.only (mv := mv) hK1
  obtain ⟨c0, c1, c2, c3, c4⟩ := hR1.cells
  obtain ⟨L, hL⟩ : ∃ L, wd s 10 [] (bl s A.sc) = L := ⟨_, rfl⟩
  have hname := name_any base b s mv ms.length _ (bl s A.sc) none _ hC1.ris hC1.own hC1.nb hC1.bb hs hi1 hb1 (by have := hO.len; have := hC.mlen; omega)
  rw [hL] at hX hwf hl8 hOk1 hop1 hname hgood
  have HX := hide hX
  clear hX hL
  go_wp2_with fail
  refine hname.mono ?_
  intro e w2 hOut
  obtain ⟨tx, rfl, htx⟩ := hOut.res
  clear c0 c1 c2 c3 c4 hname
  by_cases hLb : L.2.bad < 0
  · obtain ⟨mv2, hR2, hO2, hnb2, hS2, hLe2⟩ := hOut.ok hLb
    have ht := htx hLb
    subst ht
    have hC2 := hC1.cs (ms' := ms ++ [⟨L.1, (bl s A.sc).at_, none⟩]) hS2 hR2 (by
      rw [List.flatMap_append, List.length_append]; exact hO2) hnb2 hLe2 (fun m hm' i hi' => by
        rcases List.mem_append.1 hm' with h | h
        · exact hC1.mlt m h i hi'
        · rw [List.mem_singleton.1 h] at hi'; cases hi') (by rw [hwf.2.2.2.1]; exact ht1) (by simp; omega)
    have hS2' := hS1.trans hS2
    have hd : decide (L.2.bad < 0) = true := by simpa using hLb
    rw [hd]
    have hiL := hwf.1
    clear hOut htx hd hC0 hC1 hR1 hK1 hO2 hS2 hS1
    go_wp2_with fail
    refine (takeSign_any b s mv2 L.2 61 _ hR2 hs hiL hLb (by decide)).mono ?_
    rintro e w3 ⟨rfl, hR3, hK3⟩
    have hS3 := hS2'.trans (Cs.only (mv := mv2) hK3)
    cases hq : sgB s L.2 61
    · have HB : Hid ((ruleM s A).1.sc.bad = (sg s L.2 61).at_) := by
        have h1 : (mu s L.2 61).bad = (sg s L.2 61).at_ := by
          unfold mu; rw [hq]; simp only [Bool.false_eq_true, if_false]
          rw [wr_eq (by rw [sg_bad]; exact hLb)]
        unfold Hid; rw [HX.out]
        show (mu s _ 10).bad = _
        have h2 := hgood.same (show 0 ≤ (mu s L.2 61).bad by omega)
        have h3 : (choD s 6 { A with sc := mu s L.2 61 }).1.sc = mu s L.2 61 := h2
        rw [h3, mu_of_bad 10 (by omega)]; exact h1
      have hc := hS3.there hbw hmw
      obtain ⟨k0, k1, k2, l0, l1, l2⟩ := cells3 hc
      clear HX hgood hOk1 hop1
      go_wp2
      refine bodyPost_ret (v := .tuple #[.agg #[.string ⟨#[]⟩, .int .i64 0, .pointer none], .bool false]) (by simp [results, Tryz.results95, go_sem, k0, k1, k2]) rfl ⟨fun h => absurd h (by rw [HB.out]; omega), fun _ => ⟨_, _, _, rfl, mv2, _, hR3.kept (kept3 w3 w.heap.size _ _ _) (by omega), by rw [HB.out], (hS0.trans hS3).new (kept3 w3 w.heap.size _ _ _) (Nat.le_refl _)⟩⟩
    · have hmu : mu s L.2 61 = sg s L.2 61 := by unfold mu; rw [hq]; rfl
      rw [hmu] at hOk1 hop1 hgood
      have hb3 : (sg s L.2 61).bad < 0 := by rw [sg_bad]; exact hLb
      have hC3 := hC2.only hK3 hR3 (by rw [sg_t, hwf.2.2.2.1]; exact ht1)
      have hX' := HX.out
      rw [hmu] at hX'
      have HX2 := hide hX'
      have hch := choD_said s 5 base b mv2 _ P _ { A with sc := sg s L.2 61 } w3 hC3 hOk1 hb3 (by rw [show ({ A with sc := sg s L.2 61 } : St).sc.op = 0 from hop1]; decide)
      have hfi := hgood.iv
      have hfo : (choD s (5 + 1) { A with sc := sg s L.2 61 }).1.sc.op = 0 := by rw [hgood.op]; exact hop1
      clear HX hX' hC2 hR2 hK3 hgood hOk1
      change Hid (ruleM s A = ({ (choD s (5 + 1) { A with sc := sg s L.2 61 }).1 with sc := mu s (choD s (5 + 1) { A with sc := sg s L.2 61 }).1.sc 10 }, ⟨L.1, (bl s A.sc).at_, (choD s (5 + 1) { A with sc := sg s L.2 61 }).2⟩)) at HX2
      generalize choD s (5 + 1) { A with sc := sg s L.2 61 } = Y at *
      obtain ⟨B, x⟩ := Y
      dsimp only at *
      generalize sg s L.2 61 = g3 at *
      go_wp2_with fail
      refine hch.mono ?_
      intro e w4 hCh
      clear hch
      by_cases hbB : B.sc.bad < 0
      · obtain ⟨mv4, P2, l, rfl, hns, hC4, hS4, hx, hnL⟩ := hCh.out.ok hbB
        dsimp only at *
        have hS4' := hS3.trans hS4
        have ht4 := hC4.t40
        unfold ptrAt
        go_wp2_with fail
        refine (takeSign_any b s mv4 B.sc 10 _ hC4.ris hs hfi hbB (by decide)).mono ?_
        rintro e w5 ⟨rfl, hR5, hK5⟩
        have hS5 := hS4'.trans (Cs.only (mv := mv4) hK5)
        have hc := hS5.there hbw hmw
        cases hq5 : sgB s B.sc 10
        · have HB : Hid ((ruleM s A).1.sc.bad = (sg s B.sc 10).at_) := by
            unfold Hid; rw [HX2.out]; show (mu s B.sc 10).bad = _
            unfold mu; rw [hq5]; simp only [Bool.false_eq_true, if_false]
            rw [wr_eq (by rw [sg_bad]; exact hbB)]
          obtain ⟨k0, k1, k2, l0, l1, l2⟩ := cells3 hc
          clear HX2 hCh
          go_wp2
          refine bodyPost_ret (v := .tuple #[.agg #[.string ⟨#[]⟩, .int .i64 0, .pointer none], .bool false]) (by simp [results, Tryz.results95, go_sem, k0, k1, k2]) rfl ⟨fun h => absurd h (by rw [HB.out]; omega), fun _ => ⟨_, _, _, rfl, mv4, _, hR5.kept (kept3 w5 w.heap.size _ _ _) (by omega), by rw [HB.out], (hS0.trans hS5).new (kept3 w5 w.heap.size _ _ _) (Nat.le_refl _)⟩⟩
        · have HB : Hid (ruleM s A = ({ B with sc := sg s B.sc 10 }, ⟨L.1, (bl s A.sc).at_, x⟩)) := by
            unfold Hid; rw [HX2.out]; unfold mu; rw [hq5]; rfl
          have hC5 := hC4.only hK5 hR5 (by rw [sg_t]; exact ht4)
          have hb5 : (sg s B.sc 10).bad < 0 := by rw [sg_bad]; exact hbB
          clear HX2 hCh hC4 hR5 hK5
          go_wp2_with fail
          refine (clone_any (ba L.1) _ (by show (L.1.toArray).size ≤ 400; simp; omega)).mono ?_
          rintro e w6 ⟨rfl, hK6⟩
          have hC6 := hC5.off hK6 (fun h => h) (fun _ _ h => h) (fun _ h => h.elim)
          have hS6 := hS5.trans (Cs.only (mv := mv4) (hK6.mono (fun _ _ h => h.elim)))
          have hc6 := hS6.there hbw hmw
          obtain ⟨k0, k1, k2, l0, l1, l2⟩ := cells3 hc6
          clear hc hS5 hC5
          go_wp2
          refine bodyPost_ret (v := .tuple #[.agg #[.string (ba L.1), .int .i64 ((bl s A.sc).at_ : Int), .pointer (some ⟨(P ++ P2).getD x 0, 0, none⟩)], .bool true]) (by simp [results, Tryz.results95, go_sem, k0, k1, k2]) rfl ?_
          rw [HB.out]
          refine ⟨fun _ => ⟨mv4, P2, l, rfl, hns, ?_, (hS0.trans hS6).new (kept3 w6 w.heap.size _ _ _) (Nat.le_refl _), hx⟩, fun h => absurd (show 0 ≤ (sg s B.sc 10).bad from h) (by omega)⟩
          have hmv4 : mv4.v.ownBlock ≠ some w.heap.size := fun h => by
            rcases hS6.own _ h with h | h
            · have := hmw _ h; omega
            · simp at h; omega
          exact (hC6.off (kept3 w6 w.heap.size _ _ _) (by omega) (fun j hj e => hmv4 (by rw [hj, e])) (fun j e => .inr e)).apart (fun k hk => .inl hk)
      · obtain ⟨v, c, rfl, mv', g', hR4, hat, hS4, hst⟩ := hCh.out.no (show 0 ≤ B.sc.bad by omega)
        dsimp only at *
        have hS4' := hS3.trans hS4
        have HB : Hid ((ruleM s A).1.sc.bad = B.sc.bad) := by
          unfold Hid; rw [HX2.out]; show (mu s B.sc 10).bad = _
          rw [mu_of_bad 10 (by omega)]
        clear HX2 hCh
        cases c
        · have hc := hS4'.there hbw hmw
          obtain ⟨k0, k1, k2, l0, l1, l2⟩ := cells3 hc
          go_wp2
          refine bodyPost_ret (v := .tuple #[.agg #[.string ⟨#[]⟩, .int .i64 0, .pointer none], .bool false]) (by simp [results, Tryz.results95, go_sem, k0, k1, k2]) rfl ⟨fun h => absurd h (by rw [HB.out]; omega), fun _ => ⟨_, _, _, rfl, mv', g', hR4.kept (kept3 w4 w.heap.size _ _ _) (by omega), by rw [HB.out]; exact hat, (hS0.trans hS4').new (kept3 w4 w.heap.size _ _ _) (Nat.le_refl _)⟩⟩
        · obtain ⟨hSt, p, rfl⟩ := hst rfl
          have hq := hSt.sgB hSt.n10
          have hq2 := hSt.sg hSt.n10
          go_wp2_with fail
          refine (takeSign_any b s mv' g' 10 _ hR4 hs hSt.iv hSt.bad (by decide)).mono ?_
          rintro e w5 ⟨rfl, hR5, hK5⟩
          rw [hq2] at hR5
          rw [hq]
          have hS5 := hS4'.trans (Cs.only (mv := mv') hK5)
          have hc := hS5.there hbw hmw
          obtain ⟨k0, k1, k2, l0, l1, l2⟩ := cells3 hc
          go_wp2
          refine bodyPost_ret (v := .tuple #[.agg #[.string ⟨#[]⟩, .int .i64 0, .pointer none], .bool false]) (by simp [results, Tryz.results95, go_sem, k0, k1, k2]) rfl ⟨fun h => absurd h (by rw [HB.out]; omega), fun _ => ⟨_, _, _, rfl, mv', g', hR5.kept (kept3 w5 w.heap.size _ _ _) (by omega), by rw [HB.out]; exact hat, (hS0.trans hS5).new (kept3 w5 w.heap.size _ _ _) (Nat.le_refl _)⟩⟩
  · have HB : Hid ((ruleM s A).1.sc.bad = L.2.bad) := by
      have h1 : mu s L.2 61 = L.2 := mu_of_bad 61 (by omega)
      unfold Hid; rw [HX.out]
      show (mu s _ 10).bad = _
      have h2 := hgood.same (show 0 ≤ (mu s L.2 61).bad by rw [h1]; omega)
      have h3 : (choD s 6 { A with sc := mu s L.2 61 }).1.sc = mu s L.2 61 := h2
      rw [h3, h1, mu_of_bad 10 (by omega)]
    obtain ⟨mv', g', hR2, hat, hS2⟩ := hOut.no (by omega)
    have hS2' := hS1.trans hS2
    have hd : decide (L.2.bad < 0) = false := by simpa using hLb
    rw [hd]
    have hc := hS2'.there hbw hmw
    obtain ⟨k0, k1, k2, l0, l1, l2⟩ := cells3 hc
    clear HX hgood hOk1 hop1 hOut htx
    go_wp2
    refine bodyPost_ret (v := .tuple #[.agg #[.string ⟨#[]⟩, .int .i64 0, .pointer none], .bool false]) (by simp [results, Tryz.results95, go_sem, k0, k1, k2]) rfl ⟨fun h => absurd h (by rw [HB.out]; omega), fun _ => ⟨_, _, _, rfl, mv', g', hR2.kept (kept3 w2 w.heap.size _ _ _) (by omega), by rw [HB.out]; exact hat, (hS0.trans hS2').new (kept3 w2 w.heap.size _ _ _) (Nat.le_refl _)⟩⟩
end Go.Proofs.YtagklnaaoclmhaaGreatDoor

namespace Go.Proofs.YtagklnaaoclmhaaGreatDoor
open Go.RowKit

/-- The places of the names among nodes. -/
def ats (l : List Nd) : List Nat := (l.filter (fun N => N.kind == 3)).map Nd.at_
theorem ats_app (l m : List Nd) : ats (l ++ m) = ats l ++ ats m := by simp [ats]
theorem ats_none {N : Nd} (h : N.kind ≠ 3) : ats [N] = [] := by simp [ats, h]

/-- From A to B: the names stand in order, between the two places. -/
structure Ord (A B : St) : Prop where
  ge : A.sc.at_ ≤ B.sc.at_
  ns : ∃ l, B.ns = A.ns ++ l ∧ (ats l).Pairwise (· < ·) ∧ ∀ a ∈ ats l, A.sc.at_ ≤ a ∧ a < B.sc.at_

theorem Ord.refl (A : St) : Ord A A := ⟨Nat.le_refl _, [], by simp, by simp [ats], by simp [ats]⟩
theorem Ord.trans {A B C : St} (h : Ord A B) (k : Ord B C) : Ord A C := by
  obtain ⟨l, h1, h2, h3⟩ := h.ns
  obtain ⟨m, k1, k2, k3⟩ := k.ns
  have hg := h.ge
  have kg := k.ge
  refine ⟨Nat.le_trans h.ge k.ge, l ++ m, by rw [k1, h1, List.append_assoc], ?_, ?_⟩
  · rw [ats_app, List.pairwise_append]
    refine ⟨h2, k2, fun a ha b hb => ?_⟩
    have := (h3 a ha).2
    have := (k3 b hb).1
    omega
  · intro a ha
    rw [ats_app] at ha
    rcases List.mem_append.1 ha with x | x
    · have := h3 a x; omega
    · have := k3 a x; omega
theorem Ord.sc {A B : St} (h : Ord A B) {g : Sc} (hg : B.sc.at_ ≤ g.at_) : Ord A { B with sc := g } := by
  obtain ⟨l, h1, h2, h3⟩ := h.ns
  exact ⟨Nat.le_trans h.ge hg, l, h1, h2, fun a ha => ⟨(h3 a ha).1, Nat.lt_of_lt_of_le (h3 a ha).2 hg⟩⟩
theorem Ord.pre {A B : St} {g : Sc} (hg : A.sc.at_ ≤ g.at_) (h : Ord { A with sc := g } B) : Ord A B := by
  obtain ⟨l, h1, h2, h3⟩ := h.ns
  exact ⟨Nat.le_trans hg h.ge, l, h1, h2, fun a ha => ⟨Nat.le_trans hg (h3 a ha).1, (h3 a ha).2⟩⟩
theorem Ord.add {A B : St} (h : Ord A B) {N : Nd} (hN : N.kind ≠ 3) : Ord A (addN B N).1 := by
  obtain ⟨l, h1, h2, h3⟩ := h.ns
  refine ⟨h.ge, l ++ [N], by show B.ns ++ [N] = _; rw [h1, List.append_assoc], ?_, ?_⟩
  · rw [ats_app, ats_none hN, List.append_nil]; exact h2
  · rw [ats_app, ats_none hN, List.append_nil]; exact h3

def OGood (s : ByteArray) (ch : St → St × Nat) (d : Nat) : Prop := ∀ A, Iv s A.sc → 5 ≤ A.sc.op + d → (ch A).1.sc.bad < 0 → Ord A (ch A).1

theorem Ord.plain {A : St} {g : Sc} {N : Nd} (hN : N.kind ≠ 3) (hg : A.sc.at_ ≤ g.at_) : Ord A (addN { A with sc := g } N).1 := ((Ord.refl A).sc hg).add hN

theorem part_ord {s : ByteArray} {ch : St → St × Nat} {d : Nat} (hg : d = 0 ∨ Good s ch (d - 1)) (ho : d = 0 ∨ OGood s ch (d - 1)) : OGood s (partM s ch) d := by
  intro A hi hd hb
  have hge := (part_fc (s := s) hg hi hd).ge
  have hbg := bl_ge s A.sc
  revert hge hb
  unfold partM
  split
  · intro hb hge
    have hw := (word_fs (s := s) (g := bl s A.sc) hi.bl).2.2 hb
    refine ⟨hge, [_], rfl, by simp [ats], fun a ha => ?_⟩
    simp [ats] at ha
    subst ha
    exact ⟨hbg, hw⟩
  · split
    · intro hb hge; exact Ord.plain (by simp [nd0]) hge
    · split
      · intro hb hge; exact Ord.plain (by simp [nd0]) hge
      · split
        · intro hb hge; exact Ord.plain (by simp [nd0]) hge
        · split
          · next hc =>
            intro hb hge
            have hop := bl_op s A.sc
            have hd0 : d ≠ 0 := by have := hc.2; omega
            have hpp := pk_pos (s := s) (g := bl s A.sc) (by omega)
            have hio : Iv s (opn (bl s A.sc)) := ⟨fun _ => by simp [opn]; omega, by simp [opn]; omega⟩
            have hd1 : 5 ≤ (opn (bl s A.sc)).op + (d - 1) := by dsimp only [opn]; omega
            have h1 := ho.resolve_left hd0 { A with sc := opn (bl s A.sc) } hio hd1
            have h2 := hg.resolve_left hd0 { A with sc := opn (bl s A.sc) } hio hd1
            generalize ch { A with sc := opn (bl s A.sc) } = X at *
            have hb2 : (mu s X.1.sc 41).bad < 0 := hb
            have hb3 := (Fs.mu h2.iv 41).good hb2
            have h3 := (h1 hb3).sc (g := shut (mu s X.1.sc 41)) (mu_ge s X.1.sc 41)
            exact Ord.pre (g := opn (bl s A.sc)) (by simp [opn]; omega) h3
          · intro hb hge
            exact Ord.plain (by simp [nd0]) hge

theorem item_ord {s : ByteArray} {ch : St → St × Nat} {d : Nat} (hg : d = 0 ∨ Good s ch (d - 1)) (ho : d = 0 ∨ OGood s ch (d - 1)) : OGood s (itemM s ch) d := by
  intro A hi hd hb
  obtain ⟨f1, f2, f3⟩ := aheadS_fs hi
  have hp := part_ord hg ho { A with sc := aheadS s A.sc } f1.iv (by rw [show ({ A with sc := aheadS s A.sc } : St).sc.op = A.sc.op from f1.op]; exact hd)
  revert hb
  unfold itemM
  generalize partM s ch { A with sc := aheadS s A.sc } = X at *
  have hr : (repM s X).1.sc.bad < 0 → Ord { A with sc := aheadS s A.sc } (repM s X).1 := by
    unfold repM
    have hbb := bl_bad s X.1.sc
    have hbg := bl_ge s X.1.sc
    split
    · next hk =>
      intro hb
      have hb' : (adv (bl s X.1.sc)).bad < 0 := hb
      have hX := hp (by rw [← hbb]; exact hb')
      have hk3 : kindOf (pk s (bl s X.1.sc)) ≠ 3 := by unfold kindOf; (repeat' split) <;> omega
      exact (hX.sc (g := adv (bl s X.1.sc)) (by rw [adv_at]; omega)).add (N := { nd0 with kind := kindOf (pk s (bl s X.1.sc)), subs := [X.2] }) hk3
    · intro hb
      have hb' : (bl s X.1.sc).bad < 0 := hb
      exact (hp (by rw [← hbb]; exact hb')).sc hbg
  generalize repM s X = R at *
  unfold aheadM
  split
  · next hk =>
    intro hb
    have hk3 : aheadK s A.sc ≠ 3 := by unfold aheadK; (repeat' split) <;> omega
    exact Ord.pre f1.ge ((hr hb).add (N := { nd0 with kind := aheadK s A.sc, subs := [R.2] }) hk3)
  · intro hb
    exact Ord.pre f1.ge (hr hb)

theorem seqF_ord {s : ByteArray} {ch : St → St × Nat} {d : Nat} (hg : d = 0 ∨ Good s ch (d - 1)) (ho : d = 0 ∨ OGood s ch (d - 1)) : ∀ f acc A, Iv s A.sc → 5 ≤ A.sc.op + d → (seqF s ch f acc A).1.sc.bad < 0 → Ord A (seqF s ch f acc A).1
  | 0, acc, A, _, _, _ => Ord.refl A
  | f + 1, acc, A, hi, hd, hb => by
    have hp := item_ord hg ho A hi hd
    have hf := item_fc (s := s) hg hi hd
    rw [seqF] at hb ⊢
    generalize itemM s ch A = X at *
    have hbb := bl_bad s X.1.sc
    have hbg := bl_ge s X.1.sc
    split
    · next hc =>
      rw [if_pos hc] at hb
      have hb' : (bl s X.1.sc).bad < 0 := hb
      exact (hp (by rw [← hbb]; exact hb')).sc hbg
    · next hc =>
      rw [if_neg hc] at hb
      have hgd : (bl s X.1.sc).bad < 0 := by
        have h1 : seqEnd s (bl s X.1.sc) = false := by simpa using hc
        unfold seqEnd at h1
        simp only [Bool.or_eq_false_iff, Bool.not_eq_false'] at h1
        exact (moreB_true.1 h1.1.1.1).1
      have h1 := (hp (by rw [← hbb]; exact hgd)).sc (g := bl s X.1.sc) hbg
      exact h1.trans (seqF_ord hg ho f _ _ hf.iv.bl (by rw [show ({ X.1 with sc := bl s X.1.sc } : St).sc.op = X.1.sc.op from bl_op s X.1.sc, hf.op]; exact hd) hb)
theorem seq_ord {s : ByteArray} {ch : St → St × Nat} {d : Nat} (hg : d = 0 ∨ Good s ch (d - 1)) (ho : d = 0 ∨ OGood s ch (d - 1)) : OGood s (seqM s ch) d := by
  intro A hi hd hb
  exact (seqF_ord hg ho (s.size + 3) [] A hi hd hb).add (N := { nd0 with kind := 5, subs := (seqF s ch (s.size + 3) [] A).2 }) (by simp)
theorem choF_ord {s : ByteArray} {ch : St → St × Nat} {d : Nat} (hg : d = 0 ∨ Good s ch (d - 1)) (ho : d = 0 ∨ OGood s ch (d - 1)) : ∀ f acc A, Iv s A.sc → 5 ≤ A.sc.op + d → (choF s ch f acc A).1.sc.bad < 0 → Ord A (choF s ch f acc A).1
  | 0, acc, A, _, _, _ => Ord.refl A
  | f + 1, acc, A, hi, hd, hb => by
    have hp := seq_ord hg ho A hi hd
    have hf := seq_fc (s := s) hg hi hd
    rw [choF] at hb ⊢
    generalize seqM s ch A = X at *
    have hbb := sg_bad s X.1.sc 47
    have hbg := sg_ge s X.1.sc 47
    split
    · next hc =>
      rw [if_pos hc] at hb
      have hgd : X.1.sc.bad < 0 := by
        rcases Int.lt_or_le X.1.sc.bad 0 with h | h
        · exact h
        · rw [sgB_bad 47 h] at hc; cases hc
      have h1 := (hp hgd).sc (g := sg s X.1.sc 47) hbg
      exact h1.trans (choF_ord hg ho f _ _ (hf.iv.sg 47) (by rw [show ({ X.1 with sc := sg s X.1.sc 47 } : St).sc.op = X.1.sc.op from sg_op s X.1.sc 47, hf.op]; exact hd) hb)
    · next hc =>
      rw [if_neg hc] at hb
      have hb' : (sg s X.1.sc 47).bad < 0 := hb
      exact (hp (by rw [← hbb]; exact hb')).sc hbg
theorem cho_ord {s : ByteArray} {ch : St → St × Nat} {d : Nat} (hg : d = 0 ∨ Good s ch (d - 1)) (ho : d = 0 ∨ OGood s ch (d - 1)) : OGood s (choM s ch) d := by
  intro A hi hd hb
  exact (choF_ord hg ho (s.size + 3) [] A hi hd hb).add (N := { nd0 with kind := 4, subs := (choF s ch (s.size + 3) [] A).2 }) (by simp)
theorem choD_ord (s : ByteArray) : ∀ d, OGood s (choD s (d + 1)) d
  | 0 => cho_ord (.inl rfl) (.inl rfl)
  | d + 1 => cho_ord (d := d + 1) (.inr (choD_good s d)) (.inr (choD_ord s d))

/-- Of a rule: its own name stands ahead of those in it. -/
theorem rule_ord {s : ByteArray} {X : St} (h : Ok s X) (ho : X.sc.op = 0) (hb : X.sc.bad < 0) (hg : (ruleM s X).1.sc.bad < 0) :
    X.sc.at_ ≤ (ruleM s X).2.at_ ∧ ∃ l, (ruleM s X).1.ns = X.ns ++ l ∧ (ats l).Pairwise (· < ·) ∧ (∀ a ∈ ats l, (ruleM s X).2.at_ < a ∧ a < (ruleM s X).1.sc.at_) ∧ (ruleM s X).2.at_ < (ruleM s X).1.sc.at_ := by
  obtain ⟨k1, -, -, k4, -⟩ := rule_ok h ho hb
  obtain ⟨w1, w2, w3⟩ := word_fs h.iv
  have hc := choD_good s 5 { X with sc := mu s (word s X.sc).2 61 } k1.iv (by rw [show ({ X with sc := mu s (word s X.sc).2 61 } : St).sc.op = 0 from k4]; decide)
  have hO := choD_ord s 5 { X with sc := mu s (word s X.sc).2 61 } k1.iv (by rw [show ({ X with sc := mu s (word s X.sc).2 61 } : St).sc.op = 0 from k4]; decide)
  have hw := word_len s X.sc
  have hmg := mu_ge s (word s X.sc).2 61
  have hbl := bl_ge s X.sc
  have hwd : (word s X.sc).2.at_ = (bl s X.sc).at_ + (word s X.sc).1.length ∧ ((word s X.sc).2.bad < 0 → 0 < (word s X.sc).1.length) := by
    have hh : ∀ f acc g, (wd s f acc g).2.at_ + acc.length = g.at_ + (wd s f acc g).1.length := by
      intro f
      induction f with
      | zero => intro acc g; rfl
      | succ f ih =>
        intro acc g
        rw [wd]
        split
        · split
          · show (wr g).at_ + _ = _
            rw [wr_at]
          · have := ih (acc ++ [(pk s g).toUInt8]) (adv g)
            rw [List.length_append, adv_at] at this
            simp only [List.length_cons, List.length_nil] at this
            omega
        · show (if acc = [] then wr g else g).at_ + _ = _
          split
          · rw [wr_at]
          · rfl
    have h1 : (word s X.sc).2.at_ = (bl s X.sc).at_ + (word s X.sc).1.length := by
      have := hh 10 [] (bl s X.sc)
      simp only [List.length_nil, Nat.add_zero] at this
      exact this
    refine ⟨h1, fun hx => ?_⟩
    have := (word_fs (s := s) (g := bl s X.sc) h.iv.bl).2.2
    have hid : word s (bl s X.sc) = word s X.sc := by
      unfold word
      have : bl s (bl s X.sc) = bl s X.sc := by
        have hbb : (bl s X.sc).bad < 0 := by rw [bl_bad]; exact hb
        by_cases hq : (bl s X.sc).at_ < s.size ∧ byteAt s (bl s X.sc).at_ = 32
        · exfalso
          have h1 : bl s X.sc = { X.sc with at_ := skipF s (s.size - X.sc.at_) X.sc.at_ } := by unfold bl; rw [if_pos hb]
          have key : ∀ f i, s.size ≤ i + f → ¬ (skipF s f i < s.size ∧ byteAt s (skipF s f i) = 32) := by
            intro f
            induction f with
            | zero => intro i h; simp only [skipF]; omega
            | succ f ih =>
              intro i h
              rw [skipF]
              split
              · exact ih (i + 1) (by omega)
              · next hn => exact hn
          rw [h1] at hq
          exact key (s.size - X.sc.at_) X.sc.at_ (by omega) hq
        · exact bl_eq (k := (bl s X.sc).at_) (fun _ => rfl) (fun _ => rfl) (fun _ x => hq x)
      rw [this]
    rw [hid] at this
    have := this hx
    omega
  have hX : ruleM s X = ({ (choD s (5 + 1) { X with sc := mu s (word s X.sc).2 61 }).1 with sc := mu s (choD s (5 + 1) { X with sc := mu s (word s X.sc).2 61 }).1.sc 10 }, ⟨(word s X.sc).1, (word s X.sc).2.at_ - (word s X.sc).1.length, (choD s (5 + 1) { X with sc := mu s (word s X.sc).2 61 }).2⟩) := rfl
  rw [hX] at hg ⊢
  generalize choD s (5 + 1) { X with sc := mu s (word s X.sc).2 61 } = Y at *
  have hg' : (mu s Y.1.sc 10).bad < 0 := hg
  have hb1 := (Fs.mu hc.iv 10).good hg'
  have hb2 : (mu s (word s X.sc).2 61).bad < 0 := hc.good hb1
  have hb3 : (word s X.sc).2.bad < 0 := (Fs.mu w1.iv 61).good hb2
  have hpos := hwd.2 hb3
  have hO2 := hO hb1
  obtain ⟨l, e1, e2, e3⟩ := hO2.ns
  have hge := hO2.ge
  have hm2 := mu_ge s Y.1.sc 10
  dsimp only at *
  refine ⟨by omega, l, e1, e2, fun a ha => ?_, by omega⟩
  have := e3 a ha
  omega
end Go.Proofs.YtagklnaaoclmhaaGreatDoor

namespace Go.Proofs.YtagklnaaoclmhaaGreatDoor
open Go.RowKit

theorem mns_at : ∀ (l : List Nd) (o : Nat), (mns o l).map Mn.at_ = ats l
  | [], o => rfl
  | N :: l, o => by
    rw [mns, List.map_append, mns_at l (o + 1)]
    by_cases h : N.kind = 3
    · rw [if_pos h]; simp [ats, h]
    · rw [if_neg h]; simp [ats, h]
theorem mns_mem : ∀ (l : List Nd) (o : Nat) (m : Mn), m ∈ mns o l ↔ ∃ i, i < l.length ∧ (nth l i).kind = 3 ∧ m = ⟨(nth l i).name, (nth l i).at_, some (o + i)⟩
  | [], o, m => by simp [mns]
  | N :: l, o, m => by
    rw [mns, List.mem_append, mns_mem l (o + 1) m]
    constructor
    · rintro (h | ⟨i, h1, h2, h3⟩)
      · split at h
        · next hk =>
          rw [List.mem_singleton.1 h]
          exact ⟨0, by simp, hk, rfl⟩
        · cases h
      · exact ⟨i + 1, by simp; omega, h2, by rw [h3, show o + 1 + i = o + (i + 1) by omega]; rfl⟩
    · rintro ⟨i, h1, h2, h3⟩
      cases i with
      | zero => left; rw [if_pos (show N.kind = 3 from h2), h3]; simp [nth]
      | succ i => exact .inr ⟨i, by simpa using h1, h2, by rw [h3, show o + 1 + i = o + (i + 1) by omega]; rfl⟩

/-- The names as they stand in the text: those of the rules and those of the nodes, in order. -/
structure MsOk (ms : List Mn) (rs : List Rl) (ns : List Nd) (p : Nat) : Prop where
  mem : ∀ m, m ∈ ms ↔ (m.part = none ∧ ∃ r ∈ rs, r.name = m.name ∧ r.at_ = m.at_) ∨ (∃ i, m.part = some i ∧ i < ns.length ∧ (nth ns i).kind = 3 ∧ (nth ns i).name = m.name ∧ (nth ns i).at_ = m.at_)
  srt : (ms.map Mn.at_).Pairwise (· < ·)
  lt : ∀ m ∈ ms, m.at_ < p
  rsrt : (rs.map Rl.at_).Pairwise (· < ·)
  rlt : ∀ r ∈ rs, r.at_ < p
  len : ms.length ≤ ns.length + rs.length

theorem MsOk.nil : MsOk [] [] [] 0 := ⟨fun m => by simp, by simp, by simp, by simp, by simp, by simp⟩
theorem nth_app_l {l m : List Nd} {i : Nat} (h : i < l.length) : nth (l ++ m) i = nth l i := getD_app_l h
theorem nth_app_r {l m : List Nd} {i : Nat} : nth (l ++ m) (l.length + i) = nth m i := by
  unfold nth; rw [getD_app_r (by omega)]; congr 1; omega

theorem MsOk.rule {ms : List Mn} {rs : List Rl} {ns l : List Nd} {p q : Nat} {r : Rl} (h : MsOk ms rs ns p) (h1 : p ≤ r.at_) (h2 : (ats l).Pairwise (· < ·)) (h3 : ∀ a ∈ ats l, r.at_ < a ∧ a < q) (h4 : r.at_ < q) :
    MsOk (ms ++ [⟨r.name, r.at_, none⟩] ++ mns ns.length l) (rs ++ [r]) (ns ++ l) q := by
  have hl : ∀ m ∈ mns ns.length l, r.at_ < m.at_ ∧ m.at_ < q := fun m hm => h3 _ (by rw [← mns_at l ns.length]; exact List.mem_map_of_mem hm)
  refine ⟨fun m => ?_, ?_, fun m hm => ?_, ?_, fun x hx => ?_, ?_⟩
  · rw [List.mem_append, List.mem_append, h.mem, mns_mem, List.mem_singleton]
    constructor
    · rintro ((h5 | h5) | ⟨i, e1, e2, e3⟩)
      · rcases h5 with ⟨e0, x, hx, e1, e2⟩ | ⟨i, e0, e1, e2, e3, e4⟩
        · exact .inl ⟨e0, x, List.mem_append_left _ hx, e1, e2⟩
        · exact .inr ⟨i, e0, by simp; omega, by rw [nth_app_l e1]; exact e2, by rw [nth_app_l e1]; exact e3, by rw [nth_app_l e1]; exact e4⟩
      · rw [h5]; exact .inl ⟨rfl, r, List.mem_append_right _ (List.mem_singleton.2 rfl), rfl, rfl⟩
      · rw [e3]
        exact .inr ⟨ns.length + i, rfl, by simp; omega, by rw [nth_app_r]; exact e2, by rw [nth_app_r], by rw [nth_app_r]⟩
    · rintro (⟨e0, x, hx, e1, e2⟩ | ⟨i, e0, e1, e2, e3, e4⟩)
      · rcases List.mem_append.1 hx with hx | hx
        · exact .inl (.inl (.inl ⟨e0, x, hx, e1, e2⟩))
        · rw [List.mem_singleton.1 hx] at e1 e2
          refine .inl (.inr ?_)
          obtain ⟨mn, ma, mp⟩ := m
          dsimp only at *
          rw [e0, e1, e2]
      · by_cases hi : i < ns.length
        · rw [nth_app_l hi] at e2 e3 e4
          exact .inl (.inl (.inr ⟨i, e0, hi, e2, e3, e4⟩))
        · obtain ⟨j, rfl⟩ : ∃ j, i = ns.length + j := ⟨i - ns.length, by omega⟩
          rw [nth_app_r] at e2 e3 e4
          refine .inr ⟨j, by simp at e1; omega, e2, ?_⟩
          obtain ⟨mn, ma, mp⟩ := m
          dsimp only at *
          rw [e0, e3, e4]
  · rw [List.map_append, List.map_append, mns_at, List.pairwise_append, List.pairwise_append]
    refine ⟨⟨h.srt, by simp, fun a ha b hb => ?_⟩, h2, fun a ha b hb => ?_⟩
    · obtain ⟨m, hm, rfl⟩ := List.mem_map.1 ha
      simp at hb
      have := h.lt m hm
      omega
    · have hb' := h3 b hb
      rcases List.mem_append.1 ha with ha | ha
      · obtain ⟨m, hm, rfl⟩ := List.mem_map.1 ha
        have := h.lt m hm
        omega
      · simp at ha; omega
  · rcases List.mem_append.1 hm with hm | hm
    · rcases List.mem_append.1 hm with hm | hm
      · have := h.lt m hm; omega
      · rw [List.mem_singleton.1 hm]; exact h4
    · exact (hl m hm).2
  · rw [List.map_append, List.pairwise_append]
    refine ⟨h.rsrt, by simp, fun a ha b hb => ?_⟩
    obtain ⟨x, hx, rfl⟩ := List.mem_map.1 ha
    simp at hb
    have := h.rlt x hx
    omega
  · rcases List.mem_append.1 hx with hx | hx
    · have := h.rlt x hx; omega
    · rw [List.mem_singleton.1 hx]; exact h4
  · have := h.len
    have := mns_len l ns.length
    simp
    omega

/-- A name that is a rule's for the second time, or no rule's. -/
def badM (rs : List Rl) (m : Mn) : Bool := match m.part with
  | none => decide ((rs.map Rl.at_).getD ((fndI rs m.name).getD 0) 0 ≠ m.at_)
  | some _ => decide (fndI rs m.name = none)

theorem fnd_neg {rs : List Rl} {nm : List UInt8} : fnd rs nm < 0 ↔ fndI rs nm = none := by
  unfold fnd
  cases fndI rs nm <;> simp <;> omega
/-- The least of those that are wrong. -/
def Lst2 (x : Int) (Q : Nat → Prop) : Prop := (x < 0 ∧ ∀ a, ¬ Q a) ∨ (0 ≤ x ∧ Q x.toNat ∧ ∀ a, Q a → x ≤ (a : Int))
theorem Lst2.more {x : Int} {Q : Nat → Prop} (h : Lst2 x Q) (a : Nat) : Lst2 (lo x a) (fun b => Q b ∨ b = a) := by
  unfold lo
  rcases h with ⟨h1, h2⟩ | ⟨h1, h2, h3⟩
  · rw [if_pos (.inl h1)]
    exact .inr ⟨by omega, .inr (by simp), fun b hb => by
      rcases hb with hb | hb
      · exact absurd hb (h2 b)
      · rw [hb]; omega⟩
  · split
    · next hc =>
      have hc' : (a : Int) < x := by omega
      exact .inr ⟨by omega, .inr (by simp), fun b hb => by
        rcases hb with hb | hb
        · have := h3 b hb; omega
        · rw [hb]; omega⟩
    · next hc => exact .inr ⟨h1, .inl h2, fun b hb => by
        rcases hb with hb | hb
        · exact h3 b hb
        · rw [hb]; omega⟩
theorem Lst2.iff {x : Int} {Q R : Nat → Prop} (h : Lst2 x Q) (he : ∀ a, Q a ↔ R a) : Lst2 x R := by
  rcases h with ⟨h1, h2⟩ | ⟨h1, h2, h3⟩
  · exact .inl ⟨h1, fun a ha => h2 a ((he a).2 ha)⟩
  · exact .inr ⟨h1, (he _).1 h2, fun a ha => h3 a ((he a).2 ha)⟩
theorem misR_least (rs : List Rl) : ∀ k, Lst2 (misR rs k) (fun a => ∃ j, j < k ∧ fnd rs ((rs.map Rl.name).getD j []) < j ∧ a = (rs.map Rl.at_).getD j 0)
  | 0 => .inl ⟨by simp [misR], fun a ⟨j, hj, _⟩ => by omega⟩
  | k + 1 => by
    rw [misR]
    split
    · next hc =>
      refine ((misR_least rs k).more _).iff (fun a => ?_)
      constructor
      · rintro (⟨j, h1, h2, h3⟩ | h)
        · exact ⟨j, by omega, h2, h3⟩
        · exact ⟨k, by omega, hc, h⟩
      · rintro ⟨j, h1, h2, h3⟩
        by_cases hj : j = k
        · subst hj; exact .inr h3
        · exact .inl ⟨j, by omega, h2, h3⟩
    · next hc =>
      refine (misR_least rs k).iff (fun a => ?_)
      constructor
      · rintro ⟨j, h1, h2, h3⟩; exact ⟨j, by omega, h2, h3⟩
      · rintro ⟨j, h1, h2, h3⟩
        by_cases hj : j = k
        · subst hj; exact absurd h2 hc
        · exact ⟨j, by omega, h2, h3⟩
theorem misN_least (rs : List Rl) (ns : List Nd) : ∀ k, Lst2 (misN rs ns k) (fun a => (∃ j, j < rs.length ∧ fnd rs ((rs.map Rl.name).getD j []) < j ∧ a = (rs.map Rl.at_).getD j 0) ∨ (∃ j, j < k ∧ ((ns.map Nd.kind).getD j 0 = 3 ∧ fnd rs ((ns.map Nd.name).getD j []) < 0) ∧ a = (ns.map Nd.at_).getD j 0))
  | 0 => (misR_least rs rs.length).iff (fun a => ⟨.inl, fun h => by
      rcases h with h | ⟨j, hj, _⟩
      · exact h
      · omega⟩)
  | k + 1 => by
    rw [misN]
    split
    · next hc =>
      refine ((misN_least rs ns k).more _).iff (fun a => ?_)
      constructor
      · rintro ((h | ⟨j, h1, h2, h3⟩) | h)
        · exact .inl h
        · exact .inr ⟨j, by omega, h2, h3⟩
        · exact .inr ⟨k, by omega, hc, h⟩
      · rintro (h | ⟨j, h1, h2, h3⟩)
        · exact .inl (.inl h)
        · by_cases hj : j = k
          · subst hj; exact .inr h3
          · exact .inl (.inr ⟨j, by omega, h2, h3⟩)
    · next hc =>
      refine (misN_least rs ns k).iff (fun a => ?_)
      constructor
      · rintro (h | ⟨j, h1, h2, h3⟩)
        · exact .inl h
        · exact .inr ⟨j, by omega, h2, h3⟩
      · rintro (h | ⟨j, h1, h2, h3⟩)
        · exact .inl h
        · by_cases hj : j = k
          · subst hj; exact absurd h2 hc
          · exact .inr ⟨j, by omega, h2, h3⟩

theorem fndI_own {rs : List Rl} {j : Nat} (hj : j < rs.length) : ∃ i, fndI rs rs[j].name = some i ∧ i ≤ j := by
  unfold fndI
  cases h : rs.findIdx? (fun r => r.name == rs[j].name) with
  | none =>
    have := List.findIdx?_eq_none_iff.1 h rs[j] (List.getElem_mem hj)
    simp at this
  | some i =>
    refine ⟨i, rfl, ?_⟩
    obtain ⟨h1, h2, h3⟩ := List.findIdx?_eq_some_iff_getElem.1 h
    rcases Nat.lt_or_ge j i with hlt | hge
    · have := h3 j hlt
      simp at this
    · exact hge
theorem MsOk.least {ms : List Mn} {rs : List Rl} {ns : List Nd} {p : Nat} (h : MsOk ms rs ns p) : Lst2 (mis rs ns) (fun a => ∃ m ∈ ms, badM rs m = true ∧ a = m.at_) := by
  refine (misN_least rs ns ns.length).iff (fun a => ?_)
  have hgt : ∀ i j, i < j → j < rs.length → (rs.map Rl.at_).getD i 0 < (rs.map Rl.at_).getD j 0 := by
    intro i j hij hj
    rw [map_getD _ _ _ _ (by omega), map_getD _ _ _ _ hj]
    have := List.pairwise_iff_getElem.1 h.rsrt i j (by simp; omega) (by simpa using hj) hij
    simpa using this
  constructor
  · rintro (⟨j, h1, h2, h3⟩ | ⟨j, h1, h2, h3⟩)
    · rw [map_getD _ _ _ _ h1] at h2 h3
      refine ⟨⟨rs[j].name, rs[j].at_, none⟩, (h.mem _).2 (.inl ⟨rfl, rs[j], List.getElem_mem h1, rfl, rfl⟩), ?_, h3⟩
      obtain ⟨i, hi, hij⟩ := fndI_own h1
      unfold fnd at h2
      rw [hi] at h2
      unfold badM
      simp only [hi, Option.getD_some]
      have := hgt i j (by simp at h2; omega) h1
      rw [map_getD _ _ j _ h1] at this
      simp
      simp at this
      omega
    · rw [map_getD _ _ _ _ h1, map_getD _ _ _ _ h1] at h2
      rw [map_getD _ _ _ _ h1] at h3
      refine ⟨⟨ns[j].name, ns[j].at_, some j⟩, (h.mem _).2 (.inr ⟨j, rfl, h1, ?_, ?_, ?_⟩), ?_, h3⟩
      · rw [nth_get h1]; exact h2.1
      · rw [nth_get h1]
      · rw [nth_get h1]
      · unfold badM; simp [fnd_neg.1 h2.2]
  · rintro ⟨m, hm, hb, rfl⟩
    rcases (h.mem m).1 hm with ⟨e0, r, hr, e1, e2⟩ | ⟨i, e0, e1, e2, e3, e4⟩
    · obtain ⟨j, hj, rfl⟩ := List.getElem_of_mem hr
      refine .inl ⟨j, hj, ?_, by rw [map_getD _ _ _ _ hj]; exact e2.symm⟩
      obtain ⟨i, hi, hij⟩ := fndI_own hj
      rw [map_getD _ _ _ _ hj]
      unfold fnd
      rw [hi]
      unfold badM at hb
      rw [e0, ← e1] at hb
      simp only [hi, Option.getD_some, decide_eq_true_eq] at hb
      rcases Nat.lt_or_eq_of_le hij with hlt | heq
      · simp; omega
      · subst heq
        rw [map_getD _ _ _ _ hj] at hb
        exact absurd e2 hb
    · refine .inr ⟨i, e1, ?_, by rw [map_getD _ _ _ _ e1, ← nth_get e1]; exact e4.symm⟩
      rw [map_getD _ _ _ _ e1, map_getD _ _ _ _ e1, ← nth_get e1]
      refine ⟨e2, ?_⟩
      unfold badM at hb
      rw [e0] at hb
      rw [e3]
      exact fnd_neg.2 (by simpa using hb)
/-- The first that is wrong is the least. -/
theorem MsOk.first {ms : List Mn} {rs : List Rl} {ns : List Nd} {p : Nat} (h : MsOk ms rs ns p) {q : Nat} (hq : q < ms.length) (h1 : ∀ j (hj : j < ms.length), j < q → badM rs ms[j] = false) (h2 : badM rs ms[q] = true) : mis rs ns = (ms[q].at_ : Int) := by
  rcases h.least with ⟨_, h4⟩ | ⟨h3, ⟨m, hm, hb, he⟩, h5⟩
  · exact absurd ⟨ms[q], List.getElem_mem hq, h2, rfl⟩ (h4 ms[q].at_)
  · have h6 := h5 _ ⟨ms[q], List.getElem_mem hq, h2, rfl⟩
    obtain ⟨j, hj, rfl⟩ := List.getElem_of_mem hm
    rcases Nat.lt_trichotomy j q with hlt | heq | hgt
    · rw [h1 j hj hlt] at hb; cases hb
    · subst heq; omega
    · have := List.pairwise_iff_getElem.1 h.srt q j (by simpa using hq) (by simpa using hj) hgt
      simp at this
      omega
theorem MsOk.none {ms : List Mn} {rs : List Rl} {ns : List Nd} {p : Nat} (h : MsOk ms rs ns p) (h1 : ∀ j (hj : j < ms.length), badM rs ms[j] = false) : mis rs ns < 0 := by
  rcases h.least with ⟨h3, _⟩ | ⟨h3, ⟨m, hm, hb, he⟩, h5⟩
  · exact h3
  · obtain ⟨j, hj, rfl⟩ := List.getElem_of_mem hm
    rw [h1 j hj] at hb; cases hb
end Go.Proofs.YtagklnaaoclmhaaGreatDoor

namespace Go.Proofs.YtagklnaaoclmhaaGreatDoor
open Go.RowKit

/-- The grammar's own blocks, set apart. -/
def Tg (gb : Nat) (rv : Value) (k : Nat) : Prop := k = gb ∨ rv.ownBlock = some k

/-- What grammar leaves. -/
structure GrOut (base b : Nat) (s : ByteArray) (mv : Mv) (w : World) (X : St × List Rl) (e : Ending) (w' : World) : Prop where
  ok : X.1.sc.bad < 0 → ∃ mv' P ms gb rv z, z = (mv'.L.length : Int) ∧ e = .returned (.tuple #[.pointer (some ⟨gb, 0, none⟩), .bool true]) ∧ w'.heap[gb]? = some (.cells #[rv, .int .i64 z] 150) ∧ w'.ownsRow base 189 3 rv X.2.length (X.2.flatMap (rlC P)) ∧ CR w' base b s mv' (Tg gb rv) P ms X.1 ∧ MsOk ms X.2 X.1.ns X.1.sc.at_ ∧ Cs b mv mv' w w'
  no : 0 ≤ X.1.sc.bad → e = .returned (.tuple #[.pointer none, .bool false]) ∧ Fails w w' b s mv X.1.sc.bad

theorem info69 : (Tryz.prog.info? 189).map (fun i => (i.zero, i.size, i.bytes)) = some (some (.agg #[.string ⟨#[]⟩, .int .i64 0, .pointer none]), 3, 32) := by kernel_rfl

/-- A grammar that is being read. -/
structure GrI (base b : Nat) (s : ByteArray) (mv : Mv) (w : World) (n : Nat) (wx : World) (rs : List Rl) (A6 : St) (mv6 : Mv) (P : List Nat) (ms : List Mn) (rv : Value) : Prop where
  num : n + rs.length = 9
  le : rs.length ≤ 8
  ok : Ok s A6
  op : A6.sc.op = 0
  bad : A6.sc.bad < 0
  more : A6.sc.at_ < s.size ∨ rs.length = 0
  gram : wx.heap[w.heap.size]? = some (.cells #[rv, .int .i64 0] 150)
  own : wx.ownsRow base 189 3 rv rs.length (rs.flatMap (rlC P))
  cr : CR wx base b s mv6 (Tg w.heap.size rv) P ms A6
  is : ∀ r ∈ rs, r.is < P.length
  ms : MsOk ms rs A6.ns A6.sc.at_
  cs : Cs b mv mv6 w wx
  new : ∀ j, rv.ownBlock = some j → w.heap.size < j

theorem rlC_ext {P l : List Nat} {rs : List Rl} (h : ∀ r ∈ rs, r.is < P.length) : rs.flatMap (rlC (P ++ l)) = rs.flatMap (rlC P) := by
  have : ∀ r ∈ rs, rlC (P ++ l) r = rlC P r := by
    intro r hr
    unfold rlC ptrAt
    rw [getD_app_l (h r hr)]
  simp only [List.flatMap_def]
  rw [List.map_congr_left this]

theorem CR.turn {S T' : Nat → Prop} {w w' : World} {base b : Nat} {s : ByteArray} {mv : Mv} {T : Nat → Prop} {P : List Nat} {ms : List Mn} {A : St} (h : CR w base b s mv T P ms A) (hk : Kept S w w') (h1 : ¬ S b) (h2 : ∀ j, mv.v.ownBlock = some j → ¬ S j) (h3 : ∀ j, S j → T j) (h4 : ∀ j, T' j → T j ∨ w.heap.size ≤ j) (h5 : ∀ j, T' j → j < w'.heap.size) : CR w' base b s mv T' P ms A :=
  ⟨h.ris.kept hk h1, own_kept h.own hk (fun i hi e => h2 i hi e), h.nb, h.ar.kept hk (fun j _ x y => x.2.2 (h3 j y)) (fun j hj x => ⟨x.1, x.2.1, fun y => (h4 j y).elim x.2.2 (fun z => by omega)⟩), h5, h.mlt, h.bb, h.t40, h.mlen, h.bk.kept h.ar hk (fun j _ x y => x.2.2 (h3 j y))⟩
theorem Cs.newS {S : Nat → Prop} {b : Nat} {mv mv' : Mv} {w w1 w2 : World} (h : Cs b mv mv' w w1) (hk : Kept S w1 w2) (hn : ∀ j, S j → w.heap.size ≤ j) : Cs b mv mv' w w2 :=
  ⟨⟨hk.os.trans h.kept.os, hk.tape.trans h.kept.tape, hk.output.trans h.kept.output, Nat.le_trans h.kept.size hk.size, fun i hi hs => by
    rw [hk.block i (Nat.lt_of_lt_of_le hi h.kept.size) (fun x => by have := hn i x; omega)]; exact h.kept.block i hi hs⟩, h.own, h.pre⟩
theorem readF_stop {s : ByteArray} {B : St} {rs : List Rl} (h : ¬ (B.sc.bad < 0 ∧ (B.sc.at_ < s.size ∨ rs.length = 0))) : ∀ f, readF s f B rs = (B, rs)
  | 0 => rfl
  | f + 1 => by rw [readF, if_neg h]

set_option maxRecDepth 100000 in
set_option maxHeartbeats 3200000 in
theorem grammar_code (s : ByteArray) (base b : Nat) (mv : Mv) (w : World) (hs : s.size ≤ 400) (hC : CR w base b s mv (fun _ => False) [] [] ⟨⟨0, -1, 0, 0⟩, []⟩) :
    Calls Tryz.prog 67 #[.pointer (some ⟨b, 0, none⟩)] w fun e w' => GrOut base b s mv w (read s) e w' := by
  obtain ⟨i0, hi0, hz0, hz1, hz2⟩ := info_parts info69
  obtain ⟨L, hL⟩ : ∃ L, read s = L := ⟨_, rfl⟩
  have HL : Hid (readF s (9 + 1) ⟨⟨0, -1, 0, 0⟩, []⟩ [] = L) := hL
  rw [hL]
  clear hL
  have hbw := hC.lt
  have hbase := hC.bb
  go_enter Tryz.func67, Tryz.ntmps67
  go_wp2
  go_loopg [] 9 (fun n wx => ∃ rs A6 mv6 P ms rv, GrI base b s mv w n wx rs A6 mv6 P ms rv ∧ Hid (readF s (n + 1) A6 rs = L))
  case atStart =>
    refine ⟨[], ⟨⟨0, -1, 0, 0⟩, []⟩, mv, [], [], .slice none 0 0, ⟨rfl, by simp, ⟨⟨fun _ => Nat.zero_le _, Nat.zero_le _⟩, by simp, by simp [Pt, rest]; omega, by simp, hs⟩, rfl, by decide, .inr rfl, heap_alloc_new _ _, World.ownsRow_nil _ _ _ _, ?_, by simp, MsOk.nil, Cs.only ((Kept.refl (· = b) w).alloc _), by simp [Value.ownBlock]⟩, HL.out⟩
    exact (hC.room _).apart (fun k hk => by
      rcases hk with h | h
      · exact .inr h
      · exact absurd h (by simp [Value.ownBlock]))
  case round =>
    obtain ⟨rs, A6, mv6, P, ms, rv, hI, HR⟩ := hrel
    obtain ⟨m, hm⟩ : ∃ m, m = gk := ⟨gk, rfl⟩
    subst hm
    have hg := hI.gram
    obtain ⟨g0, g1, gf0, gf1⟩ := cells2 hg
    obtain ⟨rp, rc, hrv⟩ := ownsRow_form hI.own
    have h1 := HR.out
    rw [readF, if_pos ⟨hI.bad, hI.more⟩] at h1
    have hl9 := hI.le
    by_cases h8 : rs.length = 8
    · rw [if_pos h8] at h1
      subst hrv
      have q8 : ((rs.length : Int) == 8) = true := by simp [h8]
      have HB : Hid (L.1.sc.bad = A6.sc.at_) := by
        unfold Hid; rw [← h1]; show (Go.Proofs.YtagklnaaoclmhaaGreatDoor.wr A6.sc).bad = _; rw [wr_eq hI.bad]
      clear h1 HR HL
      go_wp2
      go_ret2
      exact ⟨fun h => absurd h (by rw [HB.out]; omega), fun _ => ⟨rfl, mv6, A6.sc, hI.cr.ris, by rw [HB.out], hI.cs⟩⟩
    · rw [if_neg h8] at h1
      have q8 : ((rs.length : Int) == 8) = false := by simp; omega
      have hrule := rule_code s base b mv6 (Tg w.heap.size rv) P ms A6 wr hI.cr hI.ok hI.op hI.bad (by have := hI.ms.len; omega)
      have hrok := rule_ok hI.ok hI.op hI.bad
      have hro := rule_ord hI.ok hI.op hI.bad
      have H1 := hide h1
      clear h1 HR HL
      generalize ruleM s A6 = X at *
      obtain ⟨B, r⟩ := X
      dsimp only at *
      subst hrv
      go_wp2_with fail
      refine hrule.mono ?_
      intro e w7 hOut
      by_cases hbB : B.sc.bad < 0
      · obtain ⟨mv7, P2, l, rfl, hns, hC7, hS7, hx⟩ := hOut.ok hbB
        dsimp only [rlC] at *
        obtain ⟨cb, hcb⟩ : ∃ c, objAt wr b = some (.cells c 138 (0, 0)) := by
          obtain ⟨z, _, hz⟩ := hI.cr.ris
          exact ⟨_, hz⟩
        have hmg : mv6.v.ownBlock ≠ some w.heap.size := fun h => by
          obtain ⟨c, hc⟩ := ownsRow_obj hI.cr.own h
          rw [show objAt wr w.heap.size = _ from hg] at hc
          simp at hc
        have hrb : ∀ j, (Value.slice rp rs.length rc).ownBlock = some j → j ≠ b ∧ mv6.v.ownBlock ≠ some j := fun j hj => by
          obtain ⟨c, hc⟩ := ownsRow_obj hI.own hj
          refine ⟨fun e => ?_, fun h => ?_⟩
          · subst e; rw [hcb] at hc; simp at hc
          · obtain ⟨c2, hc2⟩ := ownsRow_obj hI.cr.own h
            rw [hc] at hc2
            simp at hc2
        have hg7 : w7.heap[w.heap.size]? = some (.cells #[.slice rp rs.length rc, .int .i64 0] 150) := by
          rw [hS7.kept.block _ (objAt_lt (show objAt wr _ = _ from hg)) (fun h => by
            rcases h with h | h
            · omega
            · exact hmg h)]
          exact hg
        have hown7 : w7.ownsRow base 189 3 (.slice rp rs.length rc) rs.length (rs.flatMap (rlC P)) := own_kept hI.own hS7.kept (fun i hi h => by
          rcases h with h | h
          · exact (hrb i hi).1 h
          · exact (hrb i hi).2 h)
        obtain ⟨m0, m1, mf0, mf1⟩ := cells2 hg7
        have hgl7 := objAt_lt (show objAt w7 _ = _ from hg7)
        obtain ⟨pq, hpq⟩ : ∃ pq, pq = (P ++ P2).getD r.is 0 := ⟨_, rfl⟩
        unfold ptrAt
        rw [← hpq]
        have HQ := hide hpq
        clear hpq hOut hrule hg g0 g1 gf0 gf1
        obtain ⟨hro1, l', hro2, hro3, hro4, hro5⟩ := hro hbB
        have hll : l = l' := List.append_cancel_left (hns.symm.trans hro2)
        subst hll
        have hms9 := hI.ms.rule hro1 hro3 hro4 hro5
        rw [← hns] at hms9
        have hnews : ((w7.alloc (.cells #[.string (ba r.name), .int .i64 (r.at_ : Int), .pointer (some ⟨pq, 0, none⟩)] 189)).drew.alloc (.cells #[.string (ba r.name), .int .i64 (r.at_ : Int), .pointer (some ⟨pq, 0, none⟩)] 189)).heap[w7.heap.size + 1]? = some (.cells #[.string (ba r.name), .int .i64 (r.at_ : Int), .pointer (some ⟨pq, 0, none⟩)] 189 (0, 0)) := by
          have := heap_alloc_new (w7.alloc (.cells #[.string (ba r.name), .int .i64 (r.at_ : Int), .pointer (some ⟨pq, 0, none⟩)] 189)).drew (.cells #[.string (ba r.name), .int .i64 (r.at_ : Int), .pointer (some ⟨pq, 0, none⟩)] 189)
          simpa using this
        have hgw : w.heap.size ≠ w7.heap.size := by omega
        have hb7 := hC7.lt
        have hnewr := hI.new
        have hbase7 : base ≤ w7.heap.size := by have := hC7.bb; omega
        go_wp2
        go_region_law
          ((refine step_append_lies _ (by rfl) _ _ _ (by rfl) base 189 i0 _ 3 32 Tryz.underlying148 hi0 hz0 hz1 hz2 (by rfl) (by omega) (.slice rp rs.length rc) rs.length (rs.flatMap (rlC P)) (by rfl) (((hown7.alloc _).alloc _).drew)
              ⟨w7.heap.size + 1, 0, none⟩ 1 1 [.string (ba r.name), .int .i64 (r.at_ : Int), .pointer (some ⟨pq, 0, none⟩)] (by rfl) (by simp) (World.news_of_block (t := 189) (fr := (0, 0)) hnews) (by simp [Value.oneCell'])
              (by omega) (by simp [maxLen]; omega) (by omega) (by simp; omega) (w7.heap.size + 2) (by simp) ?_; intro gg cap w9 hown9 hgrow hat hlt
            have hK9 : Kept (fun k => (Value.slice rp rs.length rc).ownBlock = some k) w7 w9 := ((((Kept.refl _ w7).alloc _).drew).alloc _).grown hgrow (fun k h _ => h)
            have hg9 : w9.heap[w.heap.size]? = some (.cells #[.slice rp rs.length rc, .int .i64 0] 150) := by rw [hK9.block _ hgl7 (fun h => by have := hnewr _ h; omega)]; exact hg7
            obtain ⟨n0, n1, nf0, nf1⟩ := cells2 hg9))
        all_goals
          obtain ⟨w10, hw10⟩ : ∃ w10, w10 = w9.setCell ⟨w.heap.size, 0, none⟩ (Value.slice (some ⟨gg, 0, none⟩) (rs.length + 1) cap) := ⟨_, rfl⟩
          have hgg : gg ≠ w.heap.size := by
            rcases hat with h | h
            · have := hnewr _ h; omega
            · omega
          have hggn : w.heap.size < gg := by
            rcases hat with h | h
            · exact hnewr _ h
            · omega
          have hgl : gg < w9.heap.size := (hown9.lt gg rfl).2
          have hz9 := hK9.size
          have hKS : Kept (· = w.heap.size) w9 w10 := by rw [hw10]; exact (Kept.refl (· = w.heap.size) w9).setCell (fun _ => rfl) _
          have hz10 := hKS.size
          have hmv7 : ∀ j, mv7.v.ownBlock = some j → j ≠ w.heap.size ∧ (Value.slice rp rs.length rc).ownBlock ≠ some j := fun j hj => by
            obtain ⟨c, hc⟩ := ownsRow_obj hC7.own hj
            refine ⟨fun e => ?_, fun h => ?_⟩
            · subst e; rw [show objAt w7 _ = _ from hg7] at hc; simp at hc
            · obtain ⟨c2, hc2⟩ := ownsRow_obj hown7 h
              rw [hc] at hc2; simp at hc2
          have hC9 : CR w9 base b s mv7 (Tg w.heap.size (.slice (some ⟨gg, 0, none⟩) (rs.length + 1) cap)) (P ++ P2) _ B := hC7.turn hK9 (fun h => (hrb b h).1 rfl) (fun j hj h => (hmv7 j hj).2 h) (fun j h => .inr h) (fun j h => by
            rcases h with h | h
            · exact .inl (.inl h)
            · have : gg = j := Option.some.inj h
              subst this
              rcases hat with h | h
              · exact .inl (.inr h)
              · exact .inr (by omega)) (fun j h => by
            rcases h with h | h
            · omega
            · have : gg = j := Option.some.inj h
              omega)
          have hC10 := hC9.off hKS (by omega) (fun j hj h => (hmv7 j hj).1 h) (fun j h => .inl h)
          have hg10 : w10.heap[w.heap.size]? = some (.cells #[.slice (some ⟨gg, 0, none⟩) (rs.length + 1) cap, .int .i64 0] 150) := by
            rw [hw10, heap_set_at hg9]; rfl
          have hPl : (P ++ P2).length = B.ns.length := hC7.ar.len
          have hPA : P.length = A6.ns.length := hI.cr.ar.len
          have hown10 : w10.ownsRow base 189 3 (.slice (some ⟨gg, 0, none⟩) (rs.length + 1) cap) (rs ++ [r]).length ((rs ++ [r]).flatMap (rlC (P ++ P2))) := by
            rw [List.flatMap_append, rlC_ext hI.is, List.length_append]
            have hx1 : [r].flatMap (rlC (P ++ P2)) = [.string (ba r.name), .int .i64 (r.at_ : Int), .pointer (some ⟨pq, 0, none⟩)] := by
              rw [HQ.out]; simp [rlC, ptrAt]
            rw [hx1, hw10]
            exact ownsRow_setCell_other hown9 (a := ⟨w.heap.size, 0, none⟩) (fun h => hgg (Option.some.inj h)) _
          have hS10 : Cs b mv mv7 w w10 := ((hI.cs.trans hS7).newS hK9 (fun j h => by have := hnewr j h; omega)).newS hKS (fun j h => by omega)
          have hnew10 : ∀ j, (Value.slice (some ⟨gg, 0, none⟩) (rs.length + 1) cap).ownBlock = some j → w.heap.size < j := fun j h => by
            have : gg = j := Option.some.inj h
            omega
          have his10 : ∀ x ∈ rs ++ [r], x.is < (P ++ P2).length := fun x hx' => by
            rcases List.mem_append.1 hx' with h | h
            · have := hI.is x h; simp; omega
            · rw [List.mem_singleton.1 h, hPl]; exact hx
          have hO10 := hrok.2.2.1
          have hop10 := hrok.2.1
          have hnum := hI.num
          rw [← hw10]
          clear hown9 hgrow hK9 hg9 n0 n1 nf0 nf1 hC9 hKS hw10 hC7 hown7 hg7 m0 m1 mf0 mf1 hS7 hI hnews HQ
          generalize hrv10 : Value.slice (some ⟨gg, 0, none⟩) (rs.length + 1) cap = rv10 at *
          clear hrv10
          have hga : B.sc.at_ ≤ s.size := hO10.iv.1 hbB
          go_wp2_with fail
          refine (next_any b s mv7 B.sc _ hC10.ris hs hga).mono ?_
          rintro e w11 ⟨rfl, n11, rfl⟩
          have hKd : Kept (fun _ => False) w10 (w10.drewN n11) := (Kept.refl _ _).drewN _
          have hC11 := hC10.off hKd (fun h => h) (fun _ _ h => h) (fun _ h => h.elim)
          have hS11 : Cs b mv mv7 w (w10.drewN n11) := hS10.newS hKd (fun _ h => h.elim)
          have hg11 : (w10.drewN n11).heap[w.heap.size]? = some (.cells #[rv10, .int .i64 0] 150) := hg10
          have hown11 : (w10.drewN n11).ownsRow base 189 3 rv10 (rs ++ [r]).length ((rs ++ [r]).flatMap (rlC (P ++ P2))) := hown10
          have hzz := hC11.ris.brk
          obtain ⟨zz, hzd⟩ : ∃ zz : Int, zz = (mv7.L.length : Int) := ⟨_, rfl⟩
          rw [← hzd] at hzz
          have HZ := hide hzd
          clear hzd
          obtain ⟨k0, k1, kf0, kf1⟩ := cells2 hg11
          have hnb1 : w.heap.size ≠ b := by omega
          have hnb2 : b ≠ w.heap.size := by omega
          have hrv11 : rv10.ownBlock ≠ some w.heap.size := fun h => by have := hnew10 _ h; omega
          have hmv11 : ∀ j, mv7.v.ownBlock = some j → j ≠ w.heap.size := fun j hj => (hmv7 j hj).1
          clear hC10 hS10 hg10 hown10 hKd hmv7
          generalize hw11 : w10.drewN n11 = w11 at *
          clear hw11
          by_cases hend : B.sc.at_ = s.size
          · have hn1 : nx s B.sc.at_ = -1 := by unfold nx; rw [if_pos hend]
            rw [hn1]
            have HE : Hid (L = (B, rs ++ [r])) := by
              unfold Hid; rw [← H1.out]
              exact readF_stop (fun h => by
                rcases h.2 with h | h
                · omega
                · simp at h) _
            clear H1 hn1
            have hKE : Kept (· = w.heap.size) w11 (w11.setCell ⟨w.heap.size, 1, none⟩ (.int .i64 zz)) := (Kept.refl (· = w.heap.size) w11).setCell (p := ⟨w.heap.size, 1, none⟩) (fun _ => rfl) _
            go_wp2
            go_ret2
            rw [HE.out]
            refine ⟨fun _ => ⟨mv7, P ++ P2, _, w.heap.size, rv10, zz, HZ.out, rfl, by rw [heap_set_at hg11]; rfl, ownsRow_setCell_other hown11 hrv11 _, hC11.off hKE (by omega) (fun j hj h => hmv11 j hj h) (fun j h => .inl h), hms9, hS11.newS hKE (fun j h => by omega)⟩, fun h => absurd (show 0 ≤ B.sc.bad from h) (by omega)⟩
          · have hlt2 : B.sc.at_ < s.size := by omega
            have q1 : (nx s B.sc.at_ == (-1 : Int)) = false := by
              unfold nx; rw [if_neg hend]; exact beq_eq_false_iff_ne.2 (by omega)
            have H2 : Hid (readF s (m - 1 + 1) B (rs ++ [r]) = L) := by
              unfold Hid; rw [show m - 1 + 1 = m by omega]; exact H1.out
            have HM : Hid (m + rs.length = 9) := hnum
            clear H1 hnum
            generalize nx s B.sc.at_ = xx at *
            go_wp2
            go_roundg (m - 1)
            case measure => have := HM.out; omega
            case rel =>
              have := HM.out
              exact ⟨rs ++ [r], B, mv7, P ++ P2, _, rv10, ⟨by simp; omega, by simp; omega, hO10, hop10, hbB, .inl hlt2, hg11, hown11, hC11, his10, hms9, hS11, hnew10⟩, H2.out⟩
      · obtain ⟨c0, c1, c2, rfl, mv', g', hR7, hat, hS7⟩ := hOut.no (show 0 ≤ B.sc.bad by omega)
        have HE : Hid (L = (B, rs ++ [r])) := by
          unfold Hid; rw [← H1.out]
          exact readF_stop (fun h => hbB h.1) _
        have hS8 := hI.cs.trans hS7
        have hat' : (g'.at_ : Int) = B.sc.bad := hat
        clear H1 hOut hrule hro hrok hat
        go_wp2
        go_ret2
        rw [HE.out]
        exact ⟨fun h => absurd (show B.sc.bad < 0 from h) (by omega), fun _ => ⟨rfl, mv', g', hR7.alloc _, hat', hS8.trans (Cs.only ((Kept.refl (· = b) w7).alloc _))⟩⟩
end Go.Proofs.YtagklnaaoclmhaaGreatDoor
