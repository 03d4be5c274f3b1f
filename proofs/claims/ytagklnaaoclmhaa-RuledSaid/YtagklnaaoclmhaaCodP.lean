import Derived.Test.YtagklnaaoclmhaaCodN
set_option linter.unusedSimpArgs false
set_option linter.unusedVariables false
namespace Go.Proofs.Ytagklnaaoclmhaa
open Go.RowKit

theorem Acc.only {H : Nat} {w w' : World} {base b : Nat} {mv v : Value} {P acc : List Nat} (h : Acc H w base b mv v P acc) (hk : Kept (· = b) w w') : Acc H w' base b mv v P acc :=
  ⟨own_kept h.own hk (fun i hi hx => (h.nb i hi).1 hx), h.new, h.nb⟩

theorem bl_n32 {s : ByteArray} {g : Sc} (hb : g.bad < 0) (h : (bl s g).at_ < s.size) : byteAt s (bl s g).at_ ≠ 32 := by
  have h1 : bl s g = { g with at_ := skipF s (s.size - g.at_) g.at_ } := by unfold bl; rw [if_pos hb]
  have h2 := skipF_ends s (s.size - g.at_) g.at_ (by omega)
  rw [h1] at h ⊢
  exact fun x => h2 ⟨h, x⟩
theorem stuck_of {s : ByteArray} {g : Sc} {o : Nat} (hb : (bl s g).bad < 0) (ho : (bl s g).op = o) (h : seqEnd s (bl s g) = false) : Stuck s o (bl s g) := by
  unfold seqEnd at h
  simp only [Bool.or_eq_false_iff, Bool.not_eq_false'] at h
  obtain ⟨⟨⟨h1, h2⟩, h3⟩, h4⟩ := h
  have hm := moreB_true.1 h1
  have hpk : pk s (bl s g) = byteAt s (bl s g).at_ := by unfold pk; rw [if_pos ⟨hb, hm.2⟩]
  rw [hpk] at h2 h3 h4
  refine ⟨hb, hm.2, bl_n32 (by rw [bl_bad] at hb; exact hb) hm.2, by simpa using h2, by simpa using h3, fun h5 h6 => ?_⟩
  rw [h6, ho] at h4
  simp at h4
  omega

theorem Kept.then9 {S : Nat → Prop} {w w1 w2 : World} {v : Value} (h : Kept S w w1) (k : Kept (fun j => v.ownBlock = some j) w1 w2) (hn : ∀ j, v.ownBlock = some j → w.heap.size ≤ j) : Kept S w w2 :=
  ⟨k.os.trans h.os, k.tape.trans h.tape, k.output.trans h.output, Nat.le_trans h.size k.size, fun i hi hs => by
    rw [k.block i (Nat.lt_of_lt_of_le hi h.size) (fun hx => by have := hn i hx; omega)]; exact h.block i hi hs⟩

/-- A sequence (or choice) that is being read. -/
structure SqI (base b : Nat) (s : ByteArray) (mv : Value) (T : Nat → Prop) (P : List Nat) (ms : List Mn) (A : St) (w : World) (n : Nat) (v : Value) (wx : World) (acc : List Nat) (A6 : St) (mv6 : Value) (P2 : List Nat) (l : List Nd) : Prop where
  rkl : rk s A6.sc ≤ n
  len : acc.length + rk s A6.sc ≤ 402
  ok : Ok s A6
  bad : A6.sc.bad < 0
  op : A6.sc.op = A.sc.op
  cr : CR wx base b s mv6 (And2 T v) (P ++ P2) (ms ++ mns A.ns.length l) A6
  ns : A6.ns = A.ns ++ l
  ac : Acc w.heap.size wx base b mv6 v (P ++ P2) acc
  lt : ∀ j ∈ acc, j < A6.ns.length
  cs : Cs b mv mv6 w wx

set_option maxRecDepth 100000 in
set_option maxHeartbeats 3200000 in
theorem seq_code {s : ByteArray} {ch : St → St × Nat} {d : Nat} (hch : d = 0 ∨ ChSaid 38 s ch (d - 1)) (hgd : d = 0 ∨ Good s ch (d - 1)) (base b : Nat) (mv : Value) (T : Nat → Prop) (P : List Nat) (ms : List Mn) (A : St) (w : World) (hC : CR w base b s mv T P ms A) (hO : Ok s A) (hb : A.sc.bad < 0) (hd : 5 ≤ A.sc.op + d) :
    Calls Try.prog 51 #[.pointer (some ⟨b, 0, none⟩)] w fun e w' => COut base b s mv T P ms A w (seqM s ch A) e w' := by
  obtain ⟨i0, hi0, hz0, hz1, hz2⟩ := info_parts info67
  have hs := hO.size
  obtain ⟨L, hL⟩ : ∃ L, seqF s ch (s.size + 3) [] A = L := ⟨_, rfl⟩
  have HP : Hid (seqM s ch A = addN L.1 { nd0 with kind := 5, subs := L.2 }) := by unfold Hid seqM; rw [hL]
  have HL : Hid (seqF s ch (s.size + 2 + 1) [] A = L) := hL
  clear hL
  go_enter Try.func51, Try.ntmps51
  go_wp2
  go_loopg [4] (s.size + 2) (fun n v wx => ∃ acc A6 mv6 P2 l, SqI base b s mv T P ms A w n v wx acc A6 mv6 P2 l ∧ Hid (seqF s ch (n + 1) acc A6 = L))
  case atStart =>
    refine ⟨[], A, mv, [], [], ⟨by have := rk_le s A.sc; omega, by have := rk_le s A.sc; simp; omega, hO, hb, rfl, ?_, by simp, ⟨World.ownsRow_nil _ _ _ _, by simp [Value.ownBlock], by simp [Value.ownBlock]⟩, by simp, Cs.refl _ _ _⟩, HL.out⟩
    rw [List.append_nil, mns, List.append_nil]
    exact hC.apart (fun k hk => by rcases hk with h | h; exact h; exact absurd h (by simp [Value.ownBlock]))
  case round =>
    obtain ⟨acc, A6, mv6, P2, l, hI, HR⟩ := hrel
    obtain ⟨m, hm⟩ : ∃ m, m = gk := ⟨gk, rfl⟩
    subst hm
    have hfc := item_fc hgd hI.ok.iv (show 5 ≤ A6.sc.op + d by rw [hI.op]; exact hd)
    have hitem := item_code hch hgd base b mv6 (And2 T u4) (P ++ P2) (ms ++ mns A.ns.length l) A6 wr hI.cr hI.ok hI.bad (by rw [hI.op]; exact hd)
    have h1 := HR.out
    rw [seqF] at h1
    have H1 := hide h1
    clear h1 HR
    generalize itemM s ch A6 = X at *
    obtain ⟨B, x⟩ := X
    dsimp only at *
    go_wp2_with fail
    refine hitem.mono ?_
    intro e w7 hOut
    by_cases hbB : B.sc.bad < 0
    · obtain ⟨mv7, P3, l2, rfl, hns, hC7, hS7, hx⟩ := hOut.ok hbB
      dsimp only at *
      have hlen6 : (P ++ P2).length = A6.ns.length := hI.cr.ar.len
      have hA7 := hI.ac.cs hS7 (fun j hj => by rw [hlen6]; exact hI.lt j hj) P3
      have hH : w.heap.size ≤ w7.heap.size := Nat.le_trans hI.cs.kept.size hS7.kept.size
      have hbase : base ≤ w7.heap.size := by have := hC7.bb; have := hC7.lt; omega
      have hal : acc.length ≤ 402 := by have := hI.len; omega
      clear hitem hOut
      unfold ptrAt
      obtain ⟨pq, hpq⟩ : ∃ pq, pq = (P ++ P2 ++ P3).getD x 0 := ⟨_, rfl⟩
      rw [← hpq]
      have HQ := hide hpq
      clear hpq
      go_wp2_with (at_builtin; refine wpList_append_lies _ rfl _ _ _ rfl base 67 i0 _ 1 8 Try.underlying77 hi0 hz0 hz1 hz2 rfl (by omega) u4 acc.length (acc.map (ptrAt (P ++ P2 ++ P3))) (by rfl) (hA7.own.alloc _) ⟨w7.heap.size, 0, none⟩ 1 1 [.pointer (some ⟨pq, 0, none⟩)] (by rfl) rfl (World.news_of_block (cs := #[.pointer (some ⟨pq, 0, none⟩)]) (t := 67) (fr := (0, 0)) (heap_alloc_new w7 _)) (by simp [Value.oneCell']) (by omega) (by simp [maxLen]; omega) (by omega) (by simp; omega) (w7.heap.size + 1) (by simp) ?_; intro gg cap w9 hown hgrow hat hlt)
      obtain ⟨hA9, hC9, hk9⟩ := hA7.app (x := x) hC7 hH (by unfold ptrAt at hown ⊢; rw [← HQ.out]; exact hown) hgrow hat
      have ht7 := hC7.t40
      have hga : (bl s B.sc).at_ ≤ s.size := hfc.iv.bl.1 (by rw [bl_bad]; exact hbB)
      have hgb : (bl s B.sc).bad < 0 := by rw [bl_bad]; exact hbB
      have hbn := biB_nx hgb hga
      have hid := bl_idem s B.sc
      have hgt : (bl s B.sc).t ≤ 40 := by rw [bl_t]; exact ht7
      have hrk : rk s (bl s B.sc) < rk s A6.sc := rk_lt hI.ok.iv hI.bad (fun _ => by have := hfc.prog hbB; have := bl_ge s B.sc; omega)
      have hO7 := (hI.ok.next hfc hbB (by decide)).sc (Fs.bl hfc.iv) (bl_t s B.sc)
      have hop7 : (bl s B.sc).op = A.sc.op := by rw [bl_op, hfc.op, hI.op]
      have hP : P ++ P2 ++ P3 = P ++ (P2 ++ P3) := List.append_assoc ..
      have hms : ms ++ mns A.ns.length l ++ mns A6.ns.length l2 = ms ++ mns A.ns.length (l ++ l2) := by
        rw [mns_app, List.append_assoc, hI.ns, List.length_append]
      have hns7 : B.ns = A.ns ++ (l ++ l2) := by rw [hns, hI.ns, List.append_assoc]
      have hlt7 : ∀ j ∈ acc ++ [x], j < B.ns.length := by
        intro j hj
        rcases List.mem_append.1 hj with h | h
        · have := hI.lt j h; have := hfc.len; omega
        · rw [List.mem_singleton.1 h]; exact hx
      have hS9 : Cs b mv mv7 w w9 := by
        have h0 := hI.cs.trans hS7
        refine ⟨h0.kept.then9 hk9 hA7.new, fun k hk => ?_⟩
        exact h0.own k hk
      rw [hP] at hA9 hC9
      rw [hms] at hC9
      generalize hv10 : Value.slice (some ⟨gg, 0, none⟩) (acc.length + 1) cap = v10 at *
      obtain ⟨p10, cap10, hvf⟩ : ∃ p c, v10 = .slice p (acc.length + 1) c := ⟨_, _, hv10.symm⟩
      clear hv10 hown hgrow hat hlt hA7 hC7 HQ hk9
      refine (skipBlanks_any b s mv7 B.sc _ hC9.ris hs (hfc.iv.1 hbB) hbB).mono ?_
      rintro e w10 ⟨rfl, hR10, hK10⟩
      have hC10 := hC9.only hK10 hR10 hgt
      have hA10 := hA9.only hK10
      go_wp2_with fail
      refine (next_any b s mv7 _ _ hR10 hs hga).mono ?_
      rintro e w11 ⟨rfl, n11, rfl⟩
      have hK11 : Kept (· = b) w9 (w10.drewN n11) := hK10.drewN n11
      have hC11 := hC9.only hK11 (hR10.drewN n11) hgt
      have hA11 := hA9.only hK11
      have hS11 := hS9.trans (Cs.only (mv := mv7) hK11)
      go_wp2_with fail
      refine (beginsItem_any _ _).mono ?_
      rintro e w12 ⟨rfl, rfl⟩
      rw [hbn]
      generalize hw11 : w10.drewN n11 = w11 at *
      clear hw11 hC10 hA10 hC9 hA9 hR10 hK10 hK11 hbn
      generalize nx s (bl s B.sc).at_ = xx at *
      cases hbi : biB (pk s (bl s B.sc) : Int)
      · cases hse : seqEnd s (bl s B.sc)
        · have H2 : Hid ((seqM s ch A).1.sc.bad = (bl s B.sc).at_) := by
            have h1 := H1.out
            rw [hse] at h1
            simp only [Bool.false_eq_true, if_false] at h1
            have hm1 : m - 1 + 1 = m := by have := hI.rkl; omega
            rw [← hm1] at h1
            have h2 := seqF_stuck (s := s) (ch := ch) (f := m - 1) (acc := acc ++ [x]) (A := { B with sc := bl s B.sc }) hgb hfc.iv.bl hid hbi
            rw [h1] at h2
            unfold Hid; rw [HP.out]; show L.1.sc.bad = _
            rw [h2, wr_eq hgb]
          have hSt := stuck_of (o := A.sc.op) hgb hop7 hse
          subst hvf
          clear H1 HP HL hbi hse
          go_wp2_with fail
          refine (partOf_any _ _ _ _ _).mono ?_
          rintro e w13 ⟨rfl, rfl⟩
          go_wp2
          go_ret2
          exact ⟨fun h => absurd h (by rw [H2.out]; omega), fun _ => ⟨_, _, rfl, mv7, bl s B.sc, hC11.ris.alloc _, by rw [H2.out], hS11.trans (Cs.only ((Kept.refl (· = b) w11).alloc _)), fun _ => ⟨hSt, _, rfl⟩⟩⟩
        · have H2 : Hid (seqM s ch A = addN { B with sc := bl s B.sc } { nd0 with kind := 5, subs := acc ++ [x] }) := by
            have h1 := H1.out
            rw [hse] at h1
            simp only [if_true] at h1
            unfold Hid; rw [HP.out, ← h1]
          have hC12 := (hC11.apart (T' := T) (fun k h => .inl h)).add { nd0 with kind := 5, subs := acc ++ [x] } (World.ownsRow_nil _ _ _ _) (by simp [Value.ownBlock]) hA11.own (fun j hj => ⟨(hA11.nb j hj).1, (hA11.nb j hj).2, fun hT => by have := hC.told j hT; have := hA11.new j hj; omega⟩) hlt7
          have hl12 : (P ++ (P2 ++ P3)).length = B.ns.length := hC11.ar.len
          subst hvf
          clear H1 HP HL hbi hse
          go_wp2_with fail
          refine (partOf_any _ _ _ _ _).mono ?_
          rintro e w13 ⟨rfl, rfl⟩
          go_wp2
          go_ret2
          rw [H2.out]
          refine ⟨fun _ => ⟨mv7, P2 ++ P3 ++ [w11.heap.size], l ++ l2 ++ [{ nd0 with kind := 5, subs := acc ++ [x] }], ?_, ?_, ?_, hS11.trans (Cs.only ((Kept.refl (· = b) w11).alloc _)), by simp [addN]⟩, fun h => absurd (show 0 ≤ (bl s B.sc).bad from h) (by omega)⟩
          · unfold ptrAt addN; simp only
            rw [← List.append_assoc P, getD_app_r (by omega), hl12]
            simp
          · show B.ns ++ _ = _
            rw [hns7, List.append_assoc, List.append_assoc]
          · rw [← List.append_assoc P, mns_app, mns_none (show (5 : Nat) ≠ 3 by decide), List.append_nil]
            exact hC12
      · have hse := seqEnd_bi hbi
        have H2 : Hid (seqF s ch (m - 1 + 1) (acc ++ [x]) { B with sc := bl s B.sc } = L) := by
          have h1 := H1.out
          rw [hse] at h1
          simp only [Bool.false_eq_true, if_false] at h1
          unfold Hid
          rw [show m - 1 + 1 = m by have := hI.rkl; omega]
          exact h1
        have HM : Hid (rk s (bl s B.sc) < rk s A6.sc ∧ rk s A6.sc ≤ m ∧ acc.length + rk s A6.sc ≤ 402) := ⟨hrk, hI.rkl, hI.len⟩
        clear H1 HP HL hbi hse hrk
        subst hvf
        go_wp2
        go_roundg (m - 1)
        case measure => have := HM.out; omega
        case rel =>
          have := HM.out
          exact ⟨acc ++ [x], { B with sc := bl s B.sc }, mv7, P2 ++ P3, l ++ l2, ⟨by dsimp only; omega, by simp; omega, hO7, hgb, hop7, hC11, hns7, hA11, hlt7, hS11⟩, H2.out⟩
    · obtain ⟨v, rfl, mv', g', f1, f2, f3⟩ := hOut.no (show 0 ≤ B.sc.bad by omega)
      dsimp only at *
      have H2 : Hid ((seqM s ch A).1.sc.bad = B.sc.bad) := by
        have h1 := H1.out
        rw [bl_of_bad (by omega), seqEnd_bad hbB] at h1
        simp only [if_true] at h1
        unfold Hid; rw [HP.out, ← h1]; rfl
      have hS8 := hI.cs.trans f3
      clear H1 HP HL hitem
      go_wp2
      go_ret2
      exact ⟨fun h => absurd h (by rw [H2.out]; omega), fun _ => ⟨_, false, rfl, mv', g', f1, by rw [H2.out]; exact f2, hS8, fun h => absurd h (by simp)⟩⟩
end Go.Proofs.Ytagklnaaoclmhaa
