import Derived.Test.YtagklnaaoclmhaaGreatDoorMgAJ
set_option linter.unusedSimpArgs false
set_option linter.unusedVariables false
namespace Go.Proofs.YtagklnaaoclmhaaGreatDoor
open Go.RowKit

/-- Fewer or other blocks set apart. -/
theorem CR.apart {w : World} {base b : Nat} {s : ByteArray} {mv : Mv} {T T' : Nat → Prop} {P : List Nat} {ms : List Mn} {A : St} (h : CR w base b s mv T P ms A) (ht : ∀ k, T' k → T k) : CR w base b s mv T' P ms A :=
  ⟨h.ris, h.own, h.nb, h.ar.kept (Kept.refl (fun _ => False) w) (fun _ _ _ x => x) (fun _ _ x => ⟨x.1, x.2.1, fun y => x.2.2 (ht _ y)⟩), fun k hk => h.told k (ht k hk), h.mlt, h.bb, h.t40, h.mlen, h.bk⟩

/-- A list of parts that is being made beside the reader. -/
structure Acc (H : Nat) (w : World) (base b : Nat) (mv : Mv) (v : Value) (P acc : List Nat) : Prop where
  own : w.ownsRow base 187 1 v acc.length (acc.map (ptrAt P))
  new : ∀ j, v.ownBlock = some j → H ≤ j
  nb : ∀ j, v.ownBlock = some j → j ≠ b ∧ mv.v.ownBlock ≠ some j

def And2 (T : Nat → Prop) (v : Value) (k : Nat) : Prop := T k ∨ v.ownBlock = some k

theorem ptrAt_ext {P l acc : List Nat} (h : ∀ j ∈ acc, j < P.length) : acc.map (ptrAt (P ++ l)) = acc.map (ptrAt P) := by
  apply List.map_congr_left
  intro j hj
  unfold ptrAt
  rw [getD_app_l (h j hj)]

theorem Acc.cs {H : Nat} {w w' : World} {base b : Nat} {mv mv' : Mv} {v : Value} {P acc : List Nat} (h : Acc H w base b mv v P acc) (hS : Cs b mv mv' w w') (hl : ∀ j ∈ acc, j < P.length) (l : List Nat) : Acc H w' base b mv' v (P ++ l) acc := by
  refine ⟨?_, h.new, fun j hj => ⟨(h.nb j hj).1, fun hx => ?_⟩⟩
  · rw [ptrAt_ext hl]
    exact own_kept h.own hS.kept (fun i hi hx => by
      rcases hx with hx | hx
      · exact (h.nb i hi).1 hx
      · exact (h.nb i hi).2 hx)
  · rcases hS.own j hx with y | y
    · exact (h.nb j hj).2 y
    · have := (h.own.lt j hj).2; omega

theorem info67 : (Tryz.prog.info? 187).map (fun i => (i.zero, i.size, i.bytes)) = some (some (.pointer none), 1, 8) := by kernel_rfl

/-- One more in the list. -/
theorem Acc.app {H : Nat} {w w9 : World} {base b : Nat} {s : ByteArray} {mv : Mv} {v : Value} {T : Nat → Prop} {P acc : List Nat} {ms : List Mn} {A : St} {x gg cap : Nat} {o : Obj} (h : Acc H w base b mv v P acc) (hC : CR w base b s mv (And2 T v) P ms A) (hH : H ≤ w.heap.size)
    (hown : w9.ownsRow base 187 1 (.slice (some ⟨gg, 0, none⟩) (acc.length + 1) cap) (acc.length + 1) (acc.map (ptrAt P) ++ [ptrAt P x])) (hgrow : (w.alloc o).grownBy w9 v.ownBlock) (hat : v.ownBlock = some gg ∨ gg = w.heap.size + 1) :
    Acc H w9 base b mv (.slice (some ⟨gg, 0, none⟩) (acc.length + 1) cap) P (acc ++ [x]) ∧ CR w9 base b s mv (And2 T (.slice (some ⟨gg, 0, none⟩) (acc.length + 1) cap)) P ms A ∧ Kept (fun k => v.ownBlock = some k) w w9 := by
  have hk : Kept (fun k => v.ownBlock = some k) w w9 := ((Kept.refl _ w).alloc _).grown hgrow (fun k hk _ => hk)
  have hb := hC.lt
  have hz := hk.size
  have hgl : gg < w9.heap.size := (hown.lt gg rfl).2
  refine ⟨⟨?_, fun j hj => ?_, fun j hj => ?_⟩, ?_, hk⟩
  · rw [List.length_append, List.map_append]; exact hown
  · have : gg = j := Option.some.inj hj
    subst this
    rcases hat with h1 | h1
    · exact h.new _ h1
    · omega
  · have : gg = j := Option.some.inj hj
    subst this
    rcases hat with h1 | h1
    · exact h.nb _ h1
    · exact ⟨by omega, fun hx => by have := (hC.own.lt _ hx).2; omega⟩
  · refine ⟨hC.ris.kept hk (fun hx => (h.nb b hx).1 rfl), own_kept hC.own hk (fun i hi hx => (h.nb i hx).2 hi), hC.nb, hC.ar.kept hk (fun j _ x y => x.2.2 (.inr y)) (fun j hj x => ⟨x.1, x.2.1, fun y => ?_⟩), fun k hk' => ?_, hC.mlt, hC.bb, hC.t40, hC.mlen, hC.bk.kept hC.ar hk (fun j _ x y => x.2.2 (.inr y))⟩
    · rcases y with y | y
      · exact x.2.2 (.inl y)
      · have : gg = j := Option.some.inj y
        subst this
        rcases hat with h1 | h1
        · exact x.2.2 (.inr h1)
        · omega
    · rcases hk' with y | y
      · have := hC.told k (.inl y); omega
      · have : gg = k := Option.some.inj y
        omega
end Go.Proofs.YtagklnaaoclmhaaGreatDoor

namespace Go.Proofs.YtagklnaaoclmhaaGreatDoor
open Go.RowKit

theorem biB_nx {s : ByteArray} {g : Sc} (hb : g.bad < 0) (ha : g.at_ ≤ s.size) : biB (nx s g.at_) = biB (pk s g : Int) := by
  unfold nx pk
  by_cases h : g.at_ = s.size
  · rw [if_pos h, if_neg (by omega)]; decide
  · rw [if_neg h, if_pos ⟨hb, by omega⟩]
theorem biB_true {c : Nat} (h : biB (c : Int) = true) : 0 < c ∧ c ≠ 10 ∧ c ≠ 47 ∧ c ≠ 41 := by
  unfold biB letterB at h
  simp at h
  omega
theorem biB_false {c : Nat} (h : biB (c : Int) = false) : c ≠ 38 ∧ c ≠ 33 ∧ c ≠ 39 ∧ c ≠ 91 ∧ c ≠ 46 ∧ c ≠ 40 ∧ letterB (c : Int) = false := by
  unfold biB at h
  rw [Bool.or_eq_false_iff] at h
  have h1 := h.1
  simp at h1
  refine ⟨?_, ?_, ?_, ?_, ?_, ?_, h.2⟩ <;> omega
theorem seqEnd_bi {s : ByteArray} {g : Sc} (h : biB (pk s g : Int) = true) : seqEnd s g = false := by
  obtain ⟨h0, h1, h2, h3⟩ := biB_true h
  obtain ⟨p1, p2, _⟩ := pk_pos h0
  unfold seqEnd
  rw [moreB_true.2 ⟨p1, p2⟩]
  simp [h1, h2, h3]

theorem item_stuck {s : ByteArray} {ch : St → St × Nat} {A : St} (hb : A.sc.bad < 0) (hi : Iv s A.sc) (hbl : bl s A.sc = A.sc) (h : biB (pk s A.sc : Int) = false) : (itemM s ch A).1.sc = wr A.sc := by
  obtain ⟨h1, h2, h3, h4, h5, h6, h7⟩ := biB_false h
  have k1 : sgB s A.sc 38 = false := by rw [sgB_pk hb hi (by decide), hbl]; simpa using h1
  have k2 : sg s A.sc 38 = A.sc := by unfold sg; rw [k1, hbl]; rfl
  have k3 : sgB s A.sc 33 = false := by rw [sgB_pk hb hi (by decide), hbl]; simpa using h2
  have k4 : sg s A.sc 33 = A.sc := by unfold sg; rw [k3, hbl]; rfl
  have k5 : aheadS s A.sc = A.sc := by unfold aheadS; rw [k1, k2, k4]; rfl
  have k6 : partM s ch A = addN { A with sc := wr A.sc } nd0 := by
    unfold partM; rw [hbl, if_neg (by rw [h7]; simp), if_neg h5, if_neg h3, if_neg h4, if_neg (fun x => h6 x.1)]
  have hw : ¬ (wr A.sc).bad < 0 := by rw [wr_eq hb]; show ¬ ((A.sc.at_ : Int) < 0); omega
  have k7 : (repM s (partM s ch A)).1.sc = wr A.sc := by
    rw [k6]; unfold repM
    have e1 : (addN { A with sc := wr A.sc } nd0).1.sc = wr A.sc := rfl
    rw [e1, bl_of_bad (by omega)]
    have hpk : pk s (wr A.sc) = 0 := by unfold pk; rw [if_neg (fun x => hw x.1)]
    rw [hpk]; rfl
  unfold itemM
  rw [ahead_bad, k5]
  exact k7

theorem seqEnd_bad {s : ByteArray} {g : Sc} (h : ¬ g.bad < 0) : seqEnd s g = true := by
  unfold seqEnd
  have : moreB s g = false := by unfold moreB; simp; omega
  rw [this]; rfl
theorem seqF_stuck {s : ByteArray} {ch : St → St × Nat} {f : Nat} {acc : List Nat} {A : St} (hb : A.sc.bad < 0) (hi : Iv s A.sc) (hbl : bl s A.sc = A.sc) (h : biB (pk s A.sc : Int) = false) : (seqF s ch (f + 1) acc A).1.sc = wr A.sc := by
  have h1 := item_stuck (ch := ch) hb hi hbl h
  have hw : ¬ (wr A.sc).bad < 0 := by rw [wr_eq hb]; show ¬ ((A.sc.at_ : Int) < 0); omega
  have h2 : bl s (wr A.sc) = wr A.sc := bl_of_bad (by omega)
  rw [seqF, h1, h2, seqEnd_bad hw]
  rfl
end Go.Proofs.YtagklnaaoclmhaaGreatDoor

namespace Go.Proofs.YtagklnaaoclmhaaGreatDoor
open Go.RowKit

theorem Acc.only {H : Nat} {w w' : World} {base b : Nat} {mv : Mv} {v : Value} {P acc : List Nat} (h : Acc H w base b mv v P acc) (hk : Kept (· = b) w w') : Acc H w' base b mv v P acc :=
  ⟨own_kept h.own hk (fun i hi hx => (h.nb i hi).1 hx), h.new, h.nb⟩

theorem bl_n32 {s : ByteArray} {g : Sc} (hb : g.bad < 0) (h : (bl s g).at_ < s.size) : byteAt s (bl s g).at_ ≠ 32 := by
  have h1 : bl s g = { g with at_ := skipF s (s.size - g.at_) g.at_ } := by unfold bl; rw [if_pos hb]
  have h2 := skipF_ends s (s.size - g.at_) g.at_ (by omega)
  rw [h1] at h ⊢
  exact fun x => h2 ⟨h, x⟩
theorem stuck_of {s : ByteArray} {g : Sc} {o : Nat} (hb : (bl s g).bad < 0) (ho : (bl s g).op = o) (h : seqEnd s (bl s g) = false) : Stuck s o (bl s g) := by
  unfold seqEnd at h
  simp only [Bool.or_eq_false_iff, Bool.not_eq_false'] at h
  obtain ⟨⟨⟨h1, h2⟩, h3⟩, h4⟩ := h
  have hm := moreB_true.1 h1
  have hpk : pk s (bl s g) = byteAt s (bl s g).at_ := by unfold pk; rw [if_pos ⟨hb, hm.2⟩]
  rw [hpk] at h2 h3 h4
  refine ⟨hb, hm.2, bl_n32 (by rw [bl_bad] at hb; exact hb) hm.2, by simpa using h2, by simpa using h3, fun h5 h6 => ?_⟩
  rw [h6, ho] at h4
  simp at h4
  omega

theorem Kept.then9 {S : Nat → Prop} {w w1 w2 : World} {v : Value} (h : Kept S w w1) (k : Kept (fun j => v.ownBlock = some j) w1 w2) (hn : ∀ j, v.ownBlock = some j → w.heap.size ≤ j) : Kept S w w2 :=
  ⟨k.os.trans h.os, k.tape.trans h.tape, k.output.trans h.output, Nat.le_trans h.size k.size, fun i hi hs => by
    rw [k.block i (Nat.lt_of_lt_of_le hi h.size) (fun hx => by have := hn i hx; omega)]; exact h.block i hi hs⟩

/-- A sequence (or choice) that is being read. -/
structure SqI (base b : Nat) (s : ByteArray) (mv : Mv) (T : Nat → Prop) (P : List Nat) (ms : List Mn) (A : St) (w : World) (n : Nat) (v : Value) (wx : World) (acc : List Nat) (A6 : St) (mv6 : Mv) (P2 : List Nat) (l : List Nd) : Prop where
  rkl : rk s A6.sc ≤ n
  len : acc.length + rk s A6.sc ≤ 402
  ok : Ok s A6
  bad : A6.sc.bad < 0
  op : A6.sc.op = A.sc.op
  cr : CR wx base b s mv6 (And2 T v) (P ++ P2) (ms ++ mns A.ns.length l) A6
  ns : A6.ns = A.ns ++ l
  ac : Acc w.heap.size wx base b mv6 v (P ++ P2) acc
  lt : ∀ j ∈ acc, j < A6.ns.length
  cs : Cs b mv mv6 w wx
  k4 : ∀ j ∈ acc, (A6.ns.getD j nd0).kind = 4 → (P ++ P2).getD j 0 ∈ mv6.L

set_option maxRecDepth 100000 in
set_option maxHeartbeats 3200000 in
theorem seq_code {s : ByteArray} {ch : St → St × Nat} {d : Nat} (hch : d = 0 ∨ ChSaid 141 s ch (d - 1)) (hgd : d = 0 ∨ Good s ch (d - 1)) (base b : Nat) (mv : Mv) (T : Nat → Prop) (P : List Nat) (ms : List Mn) (A : St) (w : World) (hC : CR w base b s mv T P ms A) (hO : Ok s A) (hb : A.sc.bad < 0) (hd : 5 ≤ A.sc.op + d) :
    Calls Tryz.prog 165 #[.pointer (some ⟨b, 0, none⟩)] w fun e w' => COut base b s mv T P ms A w (seqM s ch A) e w' := by
  obtain ⟨i0, hi0, hz0, hz1, hz2⟩ := info_parts info67
  have hs := hO.size
  obtain ⟨L, hL⟩ : ∃ L, seqF s ch (s.size + 3) [] A = L := ⟨_, rfl⟩
  have HP : Hid (seqM s ch A = addN L.1 { nd0 with kind := 5, subs := L.2 }) := by unfold Hid seqM; rw [hL]
  have HL : Hid (seqF s ch (s.size + 2 + 1) [] A = L) := hL
  clear hL
  go_enter Tryz.func165, Tryz.ntmps165
  go_wp2
  go_loopg [4] (s.size + 2) (fun n v wx => ∃ acc A6 mv6 P2 l, SqI base b s mv T P ms A w n v wx acc A6 mv6 P2 l ∧ Hid (seqF s ch (n + 1) acc A6 = L))
  case atStart =>
    refine ⟨[], A, mv, [], [], ⟨by have := rk_le s A.sc; omega, by have := rk_le s A.sc; simp; omega, hO, hb, rfl, ?_, by simp, ⟨World.ownsRow_nil _ _ _ _, by simp [Value.ownBlock], by simp [Value.ownBlock]⟩, by simp, Cs.refl _ _ _, by simp⟩, HL.out⟩
    rw [List.append_nil, mns, List.append_nil]
    exact hC.apart (fun k hk => by rcases hk with h | h; exact h; exact absurd h (by simp [Value.ownBlock]))
  case round =>
    obtain ⟨acc, A6, mv6, P2, l, hI, HR⟩ := hrel
    obtain ⟨m, hm⟩ : ∃ m, m = gk := ⟨gk, rfl⟩
    subst hm
    have hfc := item_fc hgd hI.ok.iv (show 5 ≤ A6.sc.op + d by rw [hI.op]; exact hd)
    have hitem := item_code hch hgd base b mv6 (And2 T u4) (P ++ P2) (ms ++ mns A.ns.length l) A6 wr hI.cr hI.ok hI.bad (by rw [hI.op]; exact hd)
    have h1 := HR.out
    rw [seqF] at h1
    have H1 := hide h1
    clear h1 HR
    generalize itemM s ch A6 = X at *
    obtain ⟨B, x⟩ := X
    dsimp only at *
    go_wp2_with fail
    refine hitem.mono ?_
    intro e w7 hOut
    by_cases hbB : B.sc.bad < 0
    · obtain ⟨mv7, P3, l2, rfl, hns, hC7, hS7, hx, hx4⟩ := hOut.ok hbB
      dsimp only at *
      have hlen6 : (P ++ P2).length = A6.ns.length := hI.cr.ar.len
      have hA7 := hI.ac.cs hS7 (fun j hj => by rw [hlen6]; exact hI.lt j hj) P3
      have hH : w.heap.size ≤ w7.heap.size := Nat.le_trans hI.cs.kept.size hS7.kept.size
      have hbase : base ≤ w7.heap.size := by have := hC7.bb; have := hC7.lt; omega
      have hal : acc.length ≤ 402 := by have := hI.len; omega
      clear hitem hOut
      unfold ptrAt
      obtain ⟨pq, hpq⟩ : ∃ pq, pq = (P ++ P2 ++ P3).getD x 0 := ⟨_, rfl⟩
      rw [← hpq]
      have HQ := hide hpq
      clear hpq
      go_wp2_with (at_builtin; refine wpList_append_lies _ rfl _ _ _ rfl base 187 i0 _ 1 8 Tryz.underlying201 hi0 hz0 hz1 hz2 rfl (by omega) u4 acc.length (acc.map (ptrAt (P ++ P2 ++ P3))) (by rfl) (hA7.own.alloc _) ⟨w7.heap.size, 0, none⟩ 1 1 [.pointer (some ⟨pq, 0, none⟩)] (by rfl) rfl (World.news_of_block (cs := #[.pointer (some ⟨pq, 0, none⟩)]) (t := 187) (fr := (0, 0)) (heap_alloc_new w7 _)) (by simp [Value.oneCell']) (by omega) (by simp [maxLen]; omega) (by omega) (by simp; omega) (w7.heap.size + 1) (by simp) ?_; intro gg cap w9 hown hgrow hat hlt)
      obtain ⟨hA9, hC9, hk9⟩ := hA7.app (x := x) hC7 hH (by unfold ptrAt at hown ⊢; rw [← HQ.out]; exact hown) hgrow hat
      have ht7 := hC7.t40
      have hga : (bl s B.sc).at_ ≤ s.size := hfc.iv.bl.1 (by rw [bl_bad]; exact hbB)
      have hgb : (bl s B.sc).bad < 0 := by rw [bl_bad]; exact hbB
      have hbn := biB_nx hgb hga
      have hid := bl_idem s B.sc
      have hgt : (bl s B.sc).t ≤ 40 := by rw [bl_t]; exact ht7
      have hrk : rk s (bl s B.sc) < rk s A6.sc := rk_lt hI.ok.iv hI.bad (fun _ => by have := hfc.prog hbB; have := bl_ge s B.sc; omega)
      have hO7 := (hI.ok.next hfc hbB (by decide)).sc (Fs.bl hfc.iv) (bl_t s B.sc)
      have hop7 : (bl s B.sc).op = A.sc.op := by rw [bl_op, hfc.op, hI.op]
      have hP : P ++ P2 ++ P3 = P ++ (P2 ++ P3) := List.append_assoc ..
      have hms : ms ++ mns A.ns.length l ++ mns A6.ns.length l2 = ms ++ mns A.ns.length (l ++ l2) := by
        rw [mns_app, List.append_assoc, hI.ns, List.length_append]
      have hns7 : B.ns = A.ns ++ (l ++ l2) := by rw [hns, hI.ns, List.append_assoc]
      have hlt7 : ∀ j ∈ acc ++ [x], j < B.ns.length := by
        intro j hj
        rcases List.mem_append.1 hj with h | h
        · have := hI.lt j h; have := hfc.len; omega
        · rw [List.mem_singleton.1 h]; exact hx
      have hk47 : ∀ j ∈ acc ++ [x], (B.ns.getD j nd0).kind = 4 → (P ++ (P2 ++ P3)).getD j 0 ∈ mv7.L := by
        intro j hj h4
        rw [← hP]
        rcases List.mem_append.1 hj with h | h
        · have hjl := hI.lt j h
          rw [hns, getD_app_l hjl] at h4
          rw [getD_app_l (by omega)]
          obtain ⟨t, ht⟩ := hS7.pre
          rw [ht]
          exact List.mem_append_left _ (hI.k4 j h h4)
        · rw [List.mem_singleton.1 h] at h4 ⊢
          exact hx4 h4
      have hS9 : Cs b mv mv7 w w9 := by
        have h0 := hI.cs.trans hS7
        exact ⟨h0.kept.then9 hk9 hA7.new, fun k hk => h0.own k hk, h0.pre⟩
      rw [hP] at hA9 hC9
      rw [hms] at hC9
      generalize hv10 : Value.slice (some ⟨gg, 0, none⟩) (acc.length + 1) cap = v10 at *
      obtain ⟨p10, cap10, hvf⟩ : ∃ p c, v10 = .slice p (acc.length + 1) c := ⟨_, _, hv10.symm⟩
      clear hv10 hown hgrow hat hlt hA7 hC7 HQ hk9
      refine (skipBlanks_any b s mv7 B.sc _ hC9.ris hs (hfc.iv.1 hbB) hbB).mono ?_
      rintro e w10 ⟨rfl, hR10, hK10⟩
      have hC10 := hC9.only hK10 hR10 hgt
      have hA10 := hA9.only hK10
      go_wp2_with fail
      refine (next_any b s mv7 _ _ hR10 hs hga).mono ?_
      rintro e w11 ⟨rfl, n11, rfl⟩
      have hK11 : Kept (· = b) w9 (w10.drewN n11) := hK10.drewN n11
      have hC11 := hC9.only hK11 (hR10.drewN n11) hgt
      have hA11 := hA9.only hK11
      have hS11 := hS9.trans (Cs.only (mv := mv7) hK11)
      go_wp2_with fail
      refine (beginsItem_any _ _).mono ?_
      rintro e w12 ⟨rfl, rfl⟩
      rw [hbn]
      generalize hw11 : w10.drewN n11 = w11 at *
      clear hw11 hC10 hA10 hC9 hA9 hR10 hK10 hK11 hbn
      generalize nx s (bl s B.sc).at_ = xx at *
      cases hbi : biB (pk s (bl s B.sc) : Int)
      · cases hse : seqEnd s (bl s B.sc)
        · have H2 : Hid ((seqM s ch A).1.sc.bad = (bl s B.sc).at_) := by
            have h1 := H1.out
            rw [hse] at h1
            simp only [Bool.false_eq_true, if_false] at h1
            have hm1 : m - 1 + 1 = m := by have := hI.rkl; omega
            rw [← hm1] at h1
            have h2 := seqF_stuck (s := s) (ch := ch) (f := m - 1) (acc := acc ++ [x]) (A := { B with sc := bl s B.sc }) hgb hfc.iv.bl hid hbi
            rw [h1] at h2
            unfold Hid; rw [HP.out]; show L.1.sc.bad = _
            rw [h2, wr_eq hgb]
          have hSt := stuck_of (o := A.sc.op) hgb hop7 hse
          subst hvf
          clear H1 HP HL hbi hse
          go_wp2_with fail
          refine (partOf_any _ _ _ _ _).mono ?_
          rintro e w13 ⟨rfl, rfl⟩
          go_wp2
          go_ret2
          exact ⟨fun h => absurd h (by rw [H2.out]; omega), fun _ => ⟨_, _, rfl, mv7, bl s B.sc, hC11.ris.alloc _, by rw [H2.out], hS11.trans (Cs.only ((Kept.refl (· = b) w11).alloc _)), fun _ => ⟨hSt, _, rfl⟩⟩⟩
        · have H2 : Hid (seqM s ch A = addN { B with sc := bl s B.sc } { nd0 with kind := 5, subs := acc ++ [x] }) := by
            have h1 := H1.out
            rw [hse] at h1
            simp only [if_true] at h1
            unfold Hid; rw [HP.out, ← h1]
          have hC12 := (hC11.apart (T' := T) (fun k h => .inl h)).add { nd0 with kind := 5, subs := acc ++ [x] } (World.ownsRow_nil _ _ _ _) (by simp [Value.ownBlock]) hA11.own (fun j hj => ⟨(hA11.nb j hj).1, (hA11.nb j hj).2, fun hT => by have := hC.told j hT; have := hA11.new j hj; omega⟩) hlt7 hk47
          have hl12 : (P ++ (P2 ++ P3)).length = B.ns.length := hC11.ar.len
          subst hvf
          clear H1 HP HL hbi hse
          go_wp2_with fail
          refine (partOf_any _ _ _ _ _).mono ?_
          rintro e w13 ⟨rfl, rfl⟩
          go_wp2
          go_ret2
          rw [H2.out]
          refine ⟨fun _ => ⟨mv7, P2 ++ P3 ++ [w11.heap.size], l ++ l2 ++ [{ nd0 with kind := 5, subs := acc ++ [x] }], ?_, ?_, ?_, hS11.trans (Cs.only ((Kept.refl (· = b) w11).alloc _)), by simp [addN], ?_⟩, fun h => absurd (show 0 ≤ (bl s B.sc).bad from h) (by omega)⟩
          · unfold ptrAt addN; simp only
            rw [← List.append_assoc P, getD_app_r (by omega), hl12]
            simp
          · show B.ns ++ _ = _
            rw [hns7, List.append_assoc, List.append_assoc]
          · rw [← List.append_assoc P, mns_app, mns_none (show (5 : Nat) ≠ 3 by decide), List.append_nil]
            exact hC12
          · unfold addN; simp only
            rw [← List.append_assoc P, getD_app_r (by omega), hl12]
            intro hx
            have := hC11.bk.le hC11.ar _ hx
            simp at this
      · have hse := seqEnd_bi hbi
        have H2 : Hid (seqF s ch (m - 1 + 1) (acc ++ [x]) { B with sc := bl s B.sc } = L) := by
          have h1 := H1.out
          rw [hse] at h1
          simp only [Bool.false_eq_true, if_false] at h1
          unfold Hid
          rw [show m - 1 + 1 = m by have := hI.rkl; omega]
          exact h1
        have HM : Hid (rk s (bl s B.sc) < rk s A6.sc ∧ rk s A6.sc ≤ m ∧ acc.length + rk s A6.sc ≤ 402) := ⟨hrk, hI.rkl, hI.len⟩
        clear H1 HP HL hbi hse hrk
        subst hvf
        go_wp2
        go_roundg (m - 1)
        case measure => have := HM.out; omega
        case rel =>
          have := HM.out
          exact ⟨acc ++ [x], { B with sc := bl s B.sc }, mv7, P2 ++ P3, l ++ l2, ⟨by dsimp only; omega, by simp; omega, hO7, hgb, hop7, hC11, hns7, hA11, hlt7, hS11, hk47⟩, H2.out⟩
    · obtain ⟨v, rfl, mv', g', f1, f2, f3⟩ := hOut.no (show 0 ≤ B.sc.bad by omega)
      dsimp only at *
      have H2 : Hid ((seqM s ch A).1.sc.bad = B.sc.bad) := by
        have h1 := H1.out
        rw [bl_of_bad (by omega), seqEnd_bad hbB] at h1
        simp only [if_true] at h1
        unfold Hid; rw [HP.out, ← h1]; rfl
      have hS8 := hI.cs.trans f3
      clear H1 HP HL hitem
      go_wp2
      go_ret2
      exact ⟨fun h => absurd h (by rw [H2.out]; omega), fun _ => ⟨_, false, rfl, mv', g', f1, by rw [H2.out]; exact f2, hS8, fun h => absurd h (by simp)⟩⟩
end Go.Proofs.YtagklnaaoclmhaaGreatDoor

namespace Go.Proofs.YtagklnaaoclmhaaGreatDoor
open Go.RowKit

theorem seqM_kind (s : ByteArray) (ch : St → St × Nat) (A : St) : ((seqM s ch A).1.ns.getD (seqM s ch A).2 nd0).kind = 5 := by
  unfold seqM addN; simp

set_option maxRecDepth 100000 in
set_option maxHeartbeats 3200000 in
theorem cho_code {s : ByteArray} {ch : St → St × Nat} {d : Nat} (hch : d = 0 ∨ ChSaid 141 s ch (d - 1)) (hgd : d = 0 ∨ Good s ch (d - 1)) (base b : Nat) (mv : Mv) (T : Nat → Prop) (P : List Nat) (ms : List Mn) (A : St) (w : World) (hC : CR w base b s mv T P ms A) (hO : Ok s A) (hb : A.sc.bad < 0) (hd : 5 ≤ A.sc.op + d) :
    Calls Tryz.prog 141 #[.pointer (some ⟨b, 0, none⟩)] w fun e w' => ChOut base b s mv T P ms A w (choM s ch A) e w' := by
  obtain ⟨i0, hi0, hz0, hz1, hz2⟩ := info_parts info67
  have hs := hO.size
  obtain ⟨L, hL⟩ : ∃ L, choF s ch (s.size + 3) [] A = L := ⟨_, rfl⟩
  have HP : Hid (choM s ch A = addN L.1 { nd0 with kind := 4, subs := L.2 }) := by unfold Hid choM; rw [hL]
  have HL : Hid (choF s ch (s.size + 2 + 1) [] A = L) := hL
  clear hL
  go_enter Tryz.func141, Tryz.ntmps141
  go_wp2
  go_loopg [4] (s.size + 2) (fun n v wx => ∃ acc A6 mv6 P2 l, SqI base b s mv T P ms A w n v wx acc A6 mv6 P2 l ∧ Hid (choF s ch (n + 1) acc A6 = L))
  case atStart =>
    refine ⟨[], A, mv, [], [], ⟨by have := rk_le s A.sc; omega, by have := rk_le s A.sc; simp; omega, hO, hb, rfl, ?_, by simp, ⟨World.ownsRow_nil _ _ _ _, by simp [Value.ownBlock], by simp [Value.ownBlock]⟩, by simp, Cs.refl _ _ _, by simp⟩, HL.out⟩
    rw [List.append_nil, mns, List.append_nil]
    exact hC.apart (fun k hk => by rcases hk with h | h; exact h; exact absurd h (by simp [Value.ownBlock]))
  case round =>
    obtain ⟨acc, A6, mv6, P2, l, hI, HR⟩ := hrel
    obtain ⟨m, hm⟩ : ∃ m, m = gk := ⟨gk, rfl⟩
    subst hm
    have hfc := seq_fc hgd hI.ok.iv (show 5 ≤ A6.sc.op + d by rw [hI.op]; exact hd)
    have hitem := seq_code hch hgd base b mv6 (And2 T u4) (P ++ P2) (ms ++ mns A.ns.length l) A6 wr hI.cr hI.ok hI.bad (by rw [hI.op]; exact hd)
    have hk5 := seqM_kind s ch A6
    have h1 := HR.out
    rw [choF] at h1
    have H1 := hide h1
    clear h1 HR
    generalize seqM s ch A6 = X at *
    obtain ⟨B, x⟩ := X
    dsimp only at *
    go_wp2_with fail
    refine hitem.mono ?_
    intro e w7 hOut
    by_cases hbB : B.sc.bad < 0
    · obtain ⟨mv7, P3, l2, rfl, hns, hC7, hS7, hx, hnL⟩ := hOut.ok hbB
      dsimp only at *
      have hlen6 : (P ++ P2).length = A6.ns.length := hI.cr.ar.len
      have hA7 := hI.ac.cs hS7 (fun j hj => by rw [hlen6]; exact hI.lt j hj) P3
      have hH : w.heap.size ≤ w7.heap.size := Nat.le_trans hI.cs.kept.size hS7.kept.size
      have hbase : base ≤ w7.heap.size := by have := hC7.bb; have := hC7.lt; omega
      have hal : acc.length ≤ 402 := by have := hI.len; omega
      clear hitem hOut
      unfold ptrAt
      obtain ⟨pq, hpq⟩ : ∃ pq, pq = (P ++ P2 ++ P3).getD x 0 := ⟨_, rfl⟩
      rw [← hpq]
      have HQ := hide hpq
      clear hpq
      go_wp2_with (at_builtin; refine wpList_append_lies _ rfl _ _ _ rfl base 187 i0 _ 1 8 Tryz.underlying201 hi0 hz0 hz1 hz2 rfl (by omega) u4 acc.length (acc.map (ptrAt (P ++ P2 ++ P3))) (by rfl) (hA7.own.alloc _) ⟨w7.heap.size, 0, none⟩ 1 1 [.pointer (some ⟨pq, 0, none⟩)] (by rfl) rfl (World.news_of_block (cs := #[.pointer (some ⟨pq, 0, none⟩)]) (t := 187) (fr := (0, 0)) (heap_alloc_new w7 _)) (by simp [Value.oneCell']) (by omega) (by simp [maxLen]; omega) (by omega) (by simp; omega) (w7.heap.size + 1) (by simp) ?_; intro gg cap w9 hown hgrow hat hlt)
      obtain ⟨hA9, hC9, hk9⟩ := hA7.app (x := x) hC7 hH (by unfold ptrAt at hown ⊢; rw [← HQ.out]; exact hown) hgrow hat
      have ht7 := hC7.t40
      have hgb : (sg s B.sc 47).bad < 0 := by rw [sg_bad]; exact hbB
      have hgt : (sg s B.sc 47).t ≤ 40 := by rw [sg_t]; exact ht7
      have hrk : rk s (sg s B.sc 47) < rk s A6.sc := rk_lt hI.ok.iv hI.bad (fun _ => by have := hfc.prog hbB; have := sg_ge s B.sc 47; omega)
      have hO7 := (hI.ok.next hfc hbB (by decide)).sc (Fs.sg hfc.iv 47) (sg_t s B.sc 47)
      have hop7 : (sg s B.sc 47).op = A.sc.op := by rw [sg_op, hfc.op, hI.op]
      have hP : P ++ P2 ++ P3 = P ++ (P2 ++ P3) := List.append_assoc ..
      have hms : ms ++ mns A.ns.length l ++ mns A6.ns.length l2 = ms ++ mns A.ns.length (l ++ l2) := by
        rw [mns_app, List.append_assoc, hI.ns, List.length_append]
      have hns7 : B.ns = A.ns ++ (l ++ l2) := by rw [hns, hI.ns, List.append_assoc]
      have hlt7 : ∀ j ∈ acc ++ [x], j < B.ns.length := by
        intro j hj
        rcases List.mem_append.1 hj with h | h
        · have := hI.lt j h; have := hfc.len; omega
        · rw [List.mem_singleton.1 h]; exact hx
      have hk47 : ∀ j ∈ acc ++ [x], (B.ns.getD j nd0).kind = 4 → (P ++ (P2 ++ P3)).getD j 0 ∈ mv7.L := by
        intro j hj h4
        rw [← hP]
        rcases List.mem_append.1 hj with h | h
        · have hjl := hI.lt j h
          rw [hns, getD_app_l hjl] at h4
          rw [getD_app_l (by omega)]
          obtain ⟨t, ht⟩ := hS7.pre
          rw [ht]
          exact List.mem_append_left _ (hI.k4 j h h4)
        · rw [List.mem_singleton.1 h, hk5] at h4
          exact absurd h4 (by decide)
      have hS9 : Cs b mv mv7 w w9 := by
        have h0 := hI.cs.trans hS7
        exact ⟨h0.kept.then9 hk9 hA7.new, fun k hk => h0.own k hk, h0.pre⟩
      rw [hP] at hA9 hC9
      rw [hms] at hC9
      generalize hv10 : Value.slice (some ⟨gg, 0, none⟩) (acc.length + 1) cap = v10 at *
      obtain ⟨p10, cap10, hvf⟩ : ∃ p c, v10 = .slice p (acc.length + 1) c := ⟨_, _, hv10.symm⟩
      clear hv10 hown hgrow hat hlt hA7 hC7 HQ hk9
      refine (takeSign_any b s mv7 B.sc 47 _ hC9.ris hs hfc.iv hbB (by decide)).mono ?_
      rintro e w11 ⟨rfl, hR11, hK11⟩
      have hC11 := hC9.only hK11 hR11 hgt
      have hA11 := hA9.only hK11
      have hS11 := hS9.trans (Cs.only (mv := mv7) hK11)
      clear hC9 hA9 hR11 hK11
      cases hse : sgB s B.sc 47
      · have H2 : Hid (choM s ch A = addN { B with sc := sg s B.sc 47 } { nd0 with kind := 4, subs := acc ++ [x] }) := by
          have h1 := H1.out
          rw [hse] at h1
          simp only [Bool.false_eq_true, if_false] at h1
          unfold Hid; rw [HP.out, ← h1]
        have hC12 := (hC11.apart (T' := T) (fun k h => .inl h)).add { nd0 with kind := 4, subs := acc ++ [x] } (World.ownsRow_nil _ _ _ _) (by simp [Value.ownBlock]) hA11.own (fun j hj => ⟨(hA11.nb j hj).1, (hA11.nb j hj).2, fun hT => by have := hC.told j hT; have := hA11.new j hj; omega⟩) hlt7 hk47
        have hl12 : (P ++ (P2 ++ P3)).length = B.ns.length := hC11.ar.len
        subst hvf
        clear H1 HP HL hse
        go_wp2_with fail
        refine (partOf_any _ _ _ _ _).mono ?_
        rintro e w13 ⟨rfl, rfl⟩
        go_wp2
        go_ret2
        rw [H2.out]
        have hz13 := hS11.kept.size
        refine ⟨⟨fun _ => ⟨mv7, P2 ++ P3 ++ [w11.heap.size], l ++ l2 ++ [{ nd0 with kind := 4, subs := acc ++ [x] }], ?_, ?_, ?_, hS11.trans (Cs.only ((Kept.refl (· = b) w11).alloc _)), by simp [addN], ?_⟩, fun h => absurd (show 0 ≤ (sg s B.sc 47).bad from h) (by omega)⟩, fun _ => ⟨w11.heap.size, rfl, hz13⟩⟩
        · unfold ptrAt addN; simp only
          rw [← List.append_assoc P, getD_app_r (by omega), hl12]
          simp
        · show B.ns ++ _ = _
          rw [hns7, List.append_assoc, List.append_assoc]
        · rw [← List.append_assoc P, mns_app, mns_none (show (4 : Nat) ≠ 3 by decide), List.append_nil]
          exact hC12
        · unfold addN; simp only
          rw [← List.append_assoc P, getD_app_r (by omega), hl12]
          intro hx
          have := hC11.bk.le hC11.ar _ hx
          simp at this
      · have H2 : Hid (choF s ch (m - 1 + 1) (acc ++ [x]) { B with sc := sg s B.sc 47 } = L) := by
          have h1 := H1.out
          rw [hse] at h1
          simp only [if_true] at h1
          unfold Hid
          rw [show m - 1 + 1 = m by have := hI.rkl; omega]
          exact h1
        have HM : Hid (rk s (sg s B.sc 47) < rk s A6.sc ∧ rk s A6.sc ≤ m ∧ acc.length + rk s A6.sc ≤ 402) := ⟨hrk, hI.rkl, hI.len⟩
        clear H1 HP HL hse hrk
        subst hvf
        go_wp2
        go_roundg (m - 1)
        case measure => have := HM.out; omega
        case rel =>
          have := HM.out
          exact ⟨acc ++ [x], { B with sc := sg s B.sc 47 }, mv7, P2 ++ P3, l ++ l2, ⟨by dsimp only; omega, by simp; omega, hO7, hgb, hop7, hC11, hns7, hA11, hlt7, hS11, hk47⟩, H2.out⟩
    · obtain ⟨v, c, rfl, mv', g', f1, f2, f3, f4⟩ := hOut.no (show 0 ≤ B.sc.bad by omega)
      dsimp only at *
      have H2 : Hid ((choM s ch A).1.sc.bad = B.sc.bad) := by
        have h1 := H1.out
        have hq : sgB s B.sc 47 = false := sgB_bad 47 (by omega)
        rw [hq] at h1
        simp only [Bool.false_eq_true, if_false] at h1
        unfold Hid; rw [HP.out, ← h1]; show (sg s B.sc 47).bad = _; rw [sg_bad]
      have hS8 := hI.cs.trans f3
      have hop6 := hI.op
      have hH : w.heap.size ≤ w7.heap.size := hS8.kept.size
      have hbase : base ≤ w7.heap.size := by have := hI.cr.bb; have := hI.cr.lt; have := f3.kept.size; omega
      have hal : acc.length ≤ 402 := by have := hI.len; omega
      have hlen6 : (P ++ P2).length = A6.ns.length := hI.cr.ar.len
      have hA7 := hI.ac.cs f3 (fun j hj => by rw [hlen6]; exact hI.lt j hj) []
      rw [List.append_nil] at hA7
      clear H1 HP HL hitem hOut
      cases c
      · go_wp2
        go_ret2
        exact ⟨⟨fun h => absurd h (by rw [H2.out]; omega), fun _ => ⟨_, false, rfl, mv', g', f1, by rw [H2.out]; exact f2, hS8, fun h => absurd h (by simp)⟩⟩, fun h => absurd h (by rw [H2.out]; omega)⟩
      · obtain ⟨hSt, pv, rfl⟩ := f4 rfl
        rw [hop6] at hSt
        clear f4
        go_wp2_with (at_builtin; refine wpList_append_lies _ rfl _ _ _ rfl base 187 i0 _ 1 8 Tryz.underlying201 hi0 hz0 hz1 hz2 rfl (by omega) u4 acc.length (acc.map (ptrAt (P ++ P2))) (by rfl) (hA7.own.alloc _) ⟨w7.heap.size, 0, none⟩ 1 1 [.pointer pv] (by rfl) rfl (World.news_of_block (cs := #[.pointer pv]) (t := 187) (fr := (0, 0)) (heap_alloc_new w7 _)) (by simp [Value.oneCell']) (by omega) (by simp [maxLen]; omega) (by omega) (by simp; omega) (w7.heap.size + 1) (by simp) ?_; intro gg cap w9 hown hgrow hat hlt)
        have hk9 : Kept (fun k => u4.ownBlock = some k) w7 w9 := ((Kept.refl _ w7).alloc _).grown hgrow (fun k hk _ => hk)
        have hR9 : Ris w9 b s mv' g' := f1.kept hk9 (fun hx => (hA7.nb b hx).1 rfl)
        have hS9 : Cs b mv mv' w w9 := ⟨hS8.kept.then9 hk9 hA7.new, fun k hk => hS8.own k hk, hS8.pre⟩
        have hq := hSt.sgB hSt.n47
        have hq2 := hSt.sg hSt.n47
        clear hown hgrow hat hlt hk9
        refine (takeSign_any b s mv' g' 47 _ hR9 hs hSt.iv hSt.bad (by decide)).mono ?_
        rintro e w11 ⟨rfl, hR11, hK11⟩
        rw [hq2] at hR11
        rw [hq]
        go_wp2_with fail
        refine (partOf_any _ _ _ _ _).mono ?_
        rintro e w13 ⟨rfl, rfl⟩
        go_wp2
        go_ret2
        refine ⟨?_, fun h => absurd h (by rw [H2.out]; omega)⟩
        exact ⟨fun h => absurd h (by rw [H2.out]; omega), fun _ => ⟨_, _, rfl, mv', g', hR11.alloc _, by rw [H2.out]; exact f2, (hS9.trans (Cs.only (mv := mv') hK11)).trans (Cs.only ((Kept.refl (· = b) w11).alloc _)), fun _ => ⟨hSt, _, rfl⟩⟩⟩

theorem choD_said (s : ByteArray) : ∀ d, ChSaid 141 s (choD s (d + 1)) d
  | 0 => fun base b mv T P ms A w hC hO hb hd => cho_code (.inl rfl) (.inl rfl) base b mv T P ms A w hC hO hb hd
  | d + 1 => fun base b mv T P ms A w hC hO hb hd => cho_code (d := d + 1) (.inr (choD_said s d)) (.inr (choD_good s d)) base b mv T P ms A w hC hO hb hd

end Go.Proofs.YtagklnaaoclmhaaGreatDoor
