import Derived.Test.YtagklnaaoclmhaaCodQ
import Derived.Test.YtagklnaaoclmhaaCodR
set_option linter.unusedSimpArgs false
set_option linter.unusedVariables false
namespace Go.Proofs.Ytagklnaaoclmhaa
open Go.RowKit

theorem wd_at {s : ByteArray} : ∀ f acc g, (wd s f acc g).2.at_ + acc.length = g.at_ + (wd s f acc g).1.length
  | 0, acc, g => rfl
  | f + 1, acc, g => by
    rw [wd]
    split
    · split
      · show (wr g).at_ + _ = _
        rw [wr_at]
      · have := wd_at (s := s) f (acc ++ [(pk s g).toUInt8]) (adv g)
        rw [List.length_append, adv_at] at this
        simp only [List.length_cons, List.length_nil] at this
        omega
    · show (if acc = [] then wr g else g).at_ + _ = _
      split
      · rw [wr_at]
      · rfl

/-- A block is set apart as it is made. -/
theorem CR.room {w : World} {base b : Nat} {s : ByteArray} {mv : Value} {T : Nat → Prop} {P : List Nat} {ms : List Mn} {A : St} (h : CR w base b s mv T P ms A) (o : Obj) : CR (w.alloc o) base b s mv (fun k => T k ∨ k = w.heap.size) P ms A := by
  have hk : Kept (fun _ => False) w (w.alloc o) := (Kept.refl _ _).alloc _
  refine ⟨h.ris.alloc _, h.own.alloc _, h.nb, h.ar.kept hk (fun _ _ _ x => x) (fun j hj x => ⟨x.1, x.2.1, fun y => ?_⟩), fun k hk' => ?_, h.mlt, h.bb, h.t40, h.mlen⟩
  · rcases y with y | y
    · exact x.2.2 y
    · omega
  · rcases hk' with y | y
    · have := h.told k y; simp; omega
    · rw [y]; simp
/-- Where only what is set apart changed. -/
theorem CR.off {S : Nat → Prop} {w w' : World} {base b : Nat} {s : ByteArray} {mv : Value} {T : Nat → Prop} {P : List Nat} {ms : List Mn} {A : St} (h : CR w base b s mv T P ms A) (hk : Kept S w w') (h1 : ¬ S b) (h2 : ∀ j, mv.ownBlock = some j → ¬ S j) (h3 : ∀ j, S j → T j) : CR w' base b s mv T P ms A :=
  ⟨h.ris.kept hk h1, own_kept h.own hk (fun i hi e => h2 i hi e), h.nb, h.ar.kept hk (fun j _ x y => x.2.2 (h3 j y)) (fun _ _ x => x), fun k hk' => Nat.lt_of_lt_of_le (h.told k hk') hk.size, h.mlt, h.bb, h.t40, h.mlen⟩
theorem Cs.new {b : Nat} {mv mv' : Value} {w w1 w2 : World} {k0 : Nat} (h : Cs b mv mv' w w1) (hk : Kept (· = k0) w1 w2) (hn : w.heap.size ≤ k0) : Cs b mv mv' w w2 :=
  ⟨⟨hk.os.trans h.kept.os, hk.tape.trans h.kept.tape, hk.output.trans h.kept.output, Nat.le_trans h.kept.size hk.size, fun i hi hs => by
    rw [hk.block i (Nat.lt_of_lt_of_le hi h.kept.size) (by omega)]; exact h.kept.block i hi hs⟩, h.own⟩
theorem Cs.there {b : Nat} {mv mv' : Value} {w w1 : World} {o : Obj} (h : Cs b mv mv' (w.alloc o) w1) (hb : b < w.heap.size) (hm : ∀ j, mv.ownBlock = some j → j < w.heap.size) : w1.heap[w.heap.size]? = some o := by
  rw [h.kept.block w.heap.size (by simp) (fun x => by
    rcases x with x | x
    · omega
    · have := hm _ x; omega)]
  exact heap_alloc_new _ _
theorem cells3 {w : World} {k t : Nat} {u v x : Value} (h : w.heap[k]? = some (.cells #[u, v, x] t)) : w.cell? ⟨k, 0, none⟩ = some u ∧ w.cell? ⟨k, 1, none⟩ = some v ∧ w.cell? ⟨k, 2, none⟩ = some x ∧ w.frozen? ⟨k, 0, none⟩ = false ∧ w.frozen? ⟨k, 1, none⟩ = false ∧ w.frozen? ⟨k, 2, none⟩ = false := by
  refine ⟨?_, ?_, ?_, ?_, ?_, ?_⟩ <;> simp [World.cell?, World.frozen?, h]
theorem kept3 (w : World) (k : Nat) (u v x : Value) : Kept (· = k) w (((w.setCell ⟨k, 0, none⟩ u).setCell ⟨k, 1, none⟩ v).setCell ⟨k, 2, none⟩ x) :=
  (((Kept.refl (· = k) w).setCell (p := ⟨k, 0, none⟩) (fun _ => rfl) _).setCell (p := ⟨k, 1, none⟩) (fun _ => rfl) _).setCell (p := ⟨k, 2, none⟩) (fun _ => rfl) _

/-- The cells of a rule. -/
def rlC (P : List Nat) (r : Rl) : List Value := [.string (ba r.name), .int .i64 (r.at_ : Int), ptrAt P r.is]
/-- What rule leaves. -/
structure RlOut (base b : Nat) (s : ByteArray) (mv : Value) (T : Nat → Prop) (P : List Nat) (ms : List Mn) (A : St) (w : World) (X : St × Rl) (e : Ending) (w' : World) : Prop where
  ok : X.1.sc.bad < 0 → ∃ mv' P2 l, e = .returned (.tuple #[.agg (rlC (P ++ P2) X.2).toArray, .bool true]) ∧ X.1.ns = A.ns ++ l ∧ CR w' base b s mv' T (P ++ P2) (ms ++ [⟨X.2.name, X.2.at_, none⟩] ++ mns A.ns.length l) X.1 ∧ Cs b mv mv' w w' ∧ X.2.is < X.1.ns.length
  no : 0 ≤ X.1.sc.bad → ∃ c0 c1 c2, e = .returned (.tuple #[.agg #[.string c0, .int .i64 c1, .pointer c2], .bool false]) ∧ Fails w w' b s mv X.1.sc.bad

set_option maxRecDepth 100000 in
set_option maxHeartbeats 3200000 in
theorem rule_code (s : ByteArray) (base b : Nat) (mv : Value) (T : Nat → Prop) (P : List Nat) (ms : List Mn) (A : St) (w : World) (hC : CR w base b s mv T P ms A) (hO : Ok s A) (ho : A.sc.op = 0) (hb : A.sc.bad < 0) (hm : ms.length + 1 ≤ A.ns.length + 8) :
    Calls Try.prog 23 #[.pointer (some ⟨b, 0, none⟩)] w fun e w' => RlOut base b s mv T P ms A w (ruleM s A) e w' := by
  have hs := hO.size
  obtain ⟨hOk1, -, -, hop1, -⟩ := rule_ok hO ho hb
  have hbw := hC.lt
  have hmw : ∀ j, mv.ownBlock = some j → j < w.heap.size := fun j hj => (hC.own.lt j hj).2
  have hC0 := hC.room (.cells #[.string ⟨#[]⟩, .int .i64 0, .pointer none] 69)
  have hS0 : Cs b mv mv w (w.alloc (.cells #[.string ⟨#[]⟩, .int .i64 0, .pointer none] 69)) := Cs.only ((Kept.refl (· = b) w).alloc _)
  have hb1 : (bl s A.sc).bad < 0 := by rw [bl_bad]; exact hb
  have ht1 : (bl s A.sc).t ≤ 40 := by rw [bl_t]; exact hC.t40
  have hi1 := hO.iv.bl
  have hX : ruleM s A = ({ (choD s 6 { A with sc := mu s (wd s 10 [] (bl s A.sc)).2 61 }).1 with sc := mu s (choD s 6 { A with sc := mu s (wd s 10 [] (bl s A.sc)).2 61 }).1.sc 10 }, ⟨(wd s 10 [] (bl s A.sc)).1, (bl s A.sc).at_, (choD s 6 { A with sc := mu s (wd s 10 [] (bl s A.sc)).2 61 }).2⟩) := by
    have := wd_at (s := s) 10 [] (bl s A.sc)
    simp only [List.length_nil, Nat.add_zero] at this
    unfold ruleM word
    rw [this, Nat.add_sub_cancel]
  have hwf := wd_facts (s := s) 10 [] (bl s A.sc) hi1
  have hl8 := wd_len8 (s := s) 10 [] (bl s A.sc) (by simp)
  unfold word at hOk1 hop1
  have hgood := choD_good s 5 { A with sc := mu s (wd s 10 [] (bl s A.sc)).2 61 } hOk1.iv (by rw [show ({ A with sc := mu s (wd s 10 [] (bl s A.sc)).2 61 } : St).sc.op = 0 from hop1]; decide)
  go_enter Try.func23, Try.ntmps23
  go_wp2_with fail
  refine (skipBlanks_any b s mv A.sc _ hC0.ris hs (hO.iv.1 hb) hb).mono ?_
  rintro e w1 ⟨rfl, hR1, hK1⟩
  have hC1 := hC0.only hK1 hR1 ht1
  have hS1 := Cs.only (mv := mv) hK1
  obtain ⟨c0, c1, c2, c3, c4⟩ := hR1.cells
  obtain ⟨L, hL⟩ : ∃ L, wd s 10 [] (bl s A.sc) = L := ⟨_, rfl⟩
  have hname := name_any base b s mv ms.length _ (bl s A.sc) none _ hC1.ris hC1.own hC1.nb hC1.bb hs hi1 hb1 (by have := hO.len; have := hC.mlen; omega)
  rw [hL] at hX hwf hl8 hOk1 hop1 hname hgood
  have HX := hide hX
  clear hX hL
  go_wp2_with fail
  refine hname.mono ?_
  intro e w2 hOut
  obtain ⟨tx, rfl, htx⟩ := hOut.res
  clear c0 c1 c2 c3 c4 hname
  by_cases hLb : L.2.bad < 0
  · obtain ⟨mv2, hR2, hO2, hnb2, hS2⟩ := hOut.ok hLb
    have ht := htx hLb
    subst ht
    have hC2 := hC1.cs (ms' := ms ++ [⟨L.1, (bl s A.sc).at_, none⟩]) hS2 hR2 (by
      rw [List.flatMap_append, List.length_append]; exact hO2) hnb2 (fun m hm' i hi' => by
        rcases List.mem_append.1 hm' with h | h
        · exact hC1.mlt m h i hi'
        · rw [List.mem_singleton.1 h] at hi'; cases hi') (by rw [hwf.2.2.2.1]; exact ht1) (by simp; omega)
    have hS2' := hS1.trans hS2
    have hd : decide (L.2.bad < 0) = true := by simpa using hLb
    rw [hd]
    have hiL := hwf.1
    clear hOut htx hd hC0 hC1 hR1 hK1 hO2 hS2 hS1
    go_wp2_with fail
    refine (takeSign_any b s mv2 L.2 61 _ hR2 hs hiL hLb (by decide)).mono ?_
    rintro e w3 ⟨rfl, hR3, hK3⟩
    have hS3 := hS2'.trans (Cs.only (mv := mv2) hK3)
    cases hq : sgB s L.2 61
    · have HB : Hid ((ruleM s A).1.sc.bad = (sg s L.2 61).at_) := by
        have h1 : (mu s L.2 61).bad = (sg s L.2 61).at_ := by
          unfold mu; rw [hq]; simp only [Bool.false_eq_true, if_false]
          rw [wr_eq (by rw [sg_bad]; exact hLb)]
        unfold Hid; rw [HX.out]
        show (mu s _ 10).bad = _
        have h2 := hgood.same (show 0 ≤ (mu s L.2 61).bad by omega)
        have h3 : (choD s 6 { A with sc := mu s L.2 61 }).1.sc = mu s L.2 61 := h2
        rw [h3, mu_of_bad 10 (by omega)]; exact h1
      have hc := hS3.there hbw hmw
      obtain ⟨k0, k1, k2, l0, l1, l2⟩ := cells3 hc
      clear HX hgood hOk1 hop1
      go_wp2
      refine bodyPost_ret (v := .tuple #[.agg #[.string ⟨#[]⟩, .int .i64 0, .pointer none], .bool false]) (by simp [results, Try.results23, go_sem, k0, k1, k2]) rfl ⟨fun h => absurd h (by rw [HB.out]; omega), fun _ => ⟨_, _, _, rfl, mv2, _, hR3.kept (kept3 w3 w.heap.size _ _ _) (by omega), by rw [HB.out], (hS0.trans hS3).new (kept3 w3 w.heap.size _ _ _) (Nat.le_refl _)⟩⟩
    · have hmu : mu s L.2 61 = sg s L.2 61 := by unfold mu; rw [hq]; rfl
      rw [hmu] at hOk1 hop1 hgood
      have hb3 : (sg s L.2 61).bad < 0 := by rw [sg_bad]; exact hLb
      have hC3 := hC2.only hK3 hR3 (by rw [sg_t, hwf.2.2.2.1]; exact ht1)
      have hX' := HX.out
      rw [hmu] at hX'
      have HX2 := hide hX'
      have hch := choD_said s 5 base b mv2 _ P _ { A with sc := sg s L.2 61 } w3 hC3 hOk1 hb3 (by rw [show ({ A with sc := sg s L.2 61 } : St).sc.op = 0 from hop1]; decide)
      have hfi := hgood.iv
      have hfo : (choD s (5 + 1) { A with sc := sg s L.2 61 }).1.sc.op = 0 := by rw [hgood.op]; exact hop1
      clear HX hX' hC2 hR2 hK3 hgood hOk1
      change Hid (ruleM s A = ({ (choD s (5 + 1) { A with sc := sg s L.2 61 }).1 with sc := mu s (choD s (5 + 1) { A with sc := sg s L.2 61 }).1.sc 10 }, ⟨L.1, (bl s A.sc).at_, (choD s (5 + 1) { A with sc := sg s L.2 61 }).2⟩)) at HX2
      generalize choD s (5 + 1) { A with sc := sg s L.2 61 } = Y at *
      obtain ⟨B, x⟩ := Y
      dsimp only at *
      generalize sg s L.2 61 = g3 at *
      go_wp2_with fail
      refine hch.mono ?_
      intro e w4 hCh
      clear hch
      by_cases hbB : B.sc.bad < 0
      · obtain ⟨mv4, P2, l, rfl, hns, hC4, hS4, hx⟩ := hCh.out.ok hbB
        dsimp only at *
        have hS4' := hS3.trans hS4
        have ht4 := hC4.t40
        unfold ptrAt
        go_wp2_with fail
        refine (takeSign_any b s mv4 B.sc 10 _ hC4.ris hs hfi hbB (by decide)).mono ?_
        rintro e w5 ⟨rfl, hR5, hK5⟩
        have hS5 := hS4'.trans (Cs.only (mv := mv4) hK5)
        have hc := hS5.there hbw hmw
        cases hq5 : sgB s B.sc 10
        · have HB : Hid ((ruleM s A).1.sc.bad = (sg s B.sc 10).at_) := by
            unfold Hid; rw [HX2.out]; show (mu s B.sc 10).bad = _
            unfold mu; rw [hq5]; simp only [Bool.false_eq_true, if_false]
            rw [wr_eq (by rw [sg_bad]; exact hbB)]
          obtain ⟨k0, k1, k2, l0, l1, l2⟩ := cells3 hc
          clear HX2 hCh
          go_wp2
          refine bodyPost_ret (v := .tuple #[.agg #[.string ⟨#[]⟩, .int .i64 0, .pointer none], .bool false]) (by simp [results, Try.results23, go_sem, k0, k1, k2]) rfl ⟨fun h => absurd h (by rw [HB.out]; omega), fun _ => ⟨_, _, _, rfl, mv4, _, hR5.kept (kept3 w5 w.heap.size _ _ _) (by omega), by rw [HB.out], (hS0.trans hS5).new (kept3 w5 w.heap.size _ _ _) (Nat.le_refl _)⟩⟩
        · have HB : Hid (ruleM s A = ({ B with sc := sg s B.sc 10 }, ⟨L.1, (bl s A.sc).at_, x⟩)) := by
            unfold Hid; rw [HX2.out]; unfold mu; rw [hq5]; rfl
          have hC5 := hC4.only hK5 hR5 (by rw [sg_t]; exact ht4)
          have hb5 : (sg s B.sc 10).bad < 0 := by rw [sg_bad]; exact hbB
          clear HX2 hCh hC4 hR5 hK5
          go_wp2_with fail
          refine (clone_any (ba L.1) _ (by show (L.1.toArray).size ≤ 400; simp; omega)).mono ?_
          rintro e w6 ⟨rfl, hK6⟩
          have hC6 := hC5.off hK6 (fun h => h) (fun _ _ h => h) (fun _ h => h.elim)
          have hS6 := hS5.trans (Cs.only (mv := mv4) (hK6.mono (fun _ _ h => h.elim)))
          have hc6 := hS6.there hbw hmw
          obtain ⟨k0, k1, k2, l0, l1, l2⟩ := cells3 hc6
          clear hc hS5 hC5
          go_wp2
          refine bodyPost_ret (v := .tuple #[.agg #[.string (ba L.1), .int .i64 ((bl s A.sc).at_ : Int), .pointer (some ⟨(P ++ P2).getD x 0, 0, none⟩)], .bool true]) (by simp [results, Try.results23, go_sem, k0, k1, k2]) rfl ?_
          rw [HB.out]
          refine ⟨fun _ => ⟨mv4, P2, l, rfl, hns, ?_, (hS0.trans hS6).new (kept3 w6 w.heap.size _ _ _) (Nat.le_refl _), hx⟩, fun h => absurd (show 0 ≤ (sg s B.sc 10).bad from h) (by omega)⟩
          have hmv4 : mv4.ownBlock ≠ some w.heap.size := fun h => by
            rcases hS6.own _ h with h | h
            · have := hmw _ h; omega
            · simp at h; omega
          exact (hC6.off (kept3 w6 w.heap.size _ _ _) (by omega) (fun j hj e => hmv4 (by rw [hj, e])) (fun j e => .inr e)).apart (fun k hk => .inl hk)
      · obtain ⟨v, c, rfl, mv', g', hR4, hat, hS4, hst⟩ := hCh.out.no (show 0 ≤ B.sc.bad by omega)
        dsimp only at *
        have hS4' := hS3.trans hS4
        have HB : Hid ((ruleM s A).1.sc.bad = B.sc.bad) := by
          unfold Hid; rw [HX2.out]; show (mu s B.sc 10).bad = _
          rw [mu_of_bad 10 (by omega)]
        clear HX2 hCh
        cases c
        · have hc := hS4'.there hbw hmw
          obtain ⟨k0, k1, k2, l0, l1, l2⟩ := cells3 hc
          go_wp2
          refine bodyPost_ret (v := .tuple #[.agg #[.string ⟨#[]⟩, .int .i64 0, .pointer none], .bool false]) (by simp [results, Try.results23, go_sem, k0, k1, k2]) rfl ⟨fun h => absurd h (by rw [HB.out]; omega), fun _ => ⟨_, _, _, rfl, mv', g', hR4.kept (kept3 w4 w.heap.size _ _ _) (by omega), by rw [HB.out]; exact hat, (hS0.trans hS4').new (kept3 w4 w.heap.size _ _ _) (Nat.le_refl _)⟩⟩
        · obtain ⟨hSt, p, rfl⟩ := hst rfl
          have hq := hSt.sgB hSt.n10
          have hq2 := hSt.sg hSt.n10
          go_wp2_with fail
          refine (takeSign_any b s mv' g' 10 _ hR4 hs hSt.iv hSt.bad (by decide)).mono ?_
          rintro e w5 ⟨rfl, hR5, hK5⟩
          rw [hq2] at hR5
          rw [hq]
          have hS5 := hS4'.trans (Cs.only (mv := mv') hK5)
          have hc := hS5.there hbw hmw
          obtain ⟨k0, k1, k2, l0, l1, l2⟩ := cells3 hc
          go_wp2
          refine bodyPost_ret (v := .tuple #[.agg #[.string ⟨#[]⟩, .int .i64 0, .pointer none], .bool false]) (by simp [results, Try.results23, go_sem, k0, k1, k2]) rfl ⟨fun h => absurd h (by rw [HB.out]; omega), fun _ => ⟨_, _, _, rfl, mv', g', hR5.kept (kept3 w5 w.heap.size _ _ _) (by omega), by rw [HB.out]; exact hat, (hS0.trans hS5).new (kept3 w5 w.heap.size _ _ _) (Nat.le_refl _)⟩⟩
  · have HB : Hid ((ruleM s A).1.sc.bad = L.2.bad) := by
      have h1 : mu s L.2 61 = L.2 := mu_of_bad 61 (by omega)
      unfold Hid; rw [HX.out]
      show (mu s _ 10).bad = _
      have h2 := hgood.same (show 0 ≤ (mu s L.2 61).bad by rw [h1]; omega)
      have h3 : (choD s 6 { A with sc := mu s L.2 61 }).1.sc = mu s L.2 61 := h2
      rw [h3, h1, mu_of_bad 10 (by omega)]
    obtain ⟨mv', g', hR2, hat, hS2⟩ := hOut.no (by omega)
    have hS2' := hS1.trans hS2
    have hd : decide (L.2.bad < 0) = false := by simpa using hLb
    rw [hd]
    have hc := hS2'.there hbw hmw
    obtain ⟨k0, k1, k2, l0, l1, l2⟩ := cells3 hc
    clear HX hgood hOk1 hop1 hOut htx
    go_wp2
    refine bodyPost_ret (v := .tuple #[.agg #[.string ⟨#[]⟩, .int .i64 0, .pointer none], .bool false]) (by simp [results, Try.results23, go_sem, k0, k1, k2]) rfl ⟨fun h => absurd h (by rw [HB.out]; omega), fun _ => ⟨_, _, _, rfl, mv', g', hR2.kept (kept3 w2 w.heap.size _ _ _) (by omega), by rw [HB.out]; exact hat, (hS0.trans hS2').new (kept3 w2 w.heap.size _ _ _) (Nat.le_refl _)⟩⟩
end Go.Proofs.Ytagklnaaoclmhaa
