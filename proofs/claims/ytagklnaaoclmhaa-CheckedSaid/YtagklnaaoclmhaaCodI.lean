import Derived.Test.YtagklnaaoclmhaaCodH
set_option linter.unusedSimpArgs false
set_option linter.unusedVariables false
namespace Go.Proofs.Ytagklnaaoclmhaa
open Go.RowKit

theorem mnC_ext {P : List Nat} {ms : List Mn} (h : ∀ m ∈ ms, ∀ i, m.part = some i → i < P.length) (l : List Nat) : ms.flatMap (mnC (P ++ l)) = ms.flatMap (mnC P) := by
  have : ∀ m ∈ ms, mnC (P ++ l) m = mnC P m := by
    intro m hm
    unfold mnC
    cases hp : m.part with
    | none => rfl
    | some i => simp only [Option.map_some]; rw [getD_app_l (h m hm i hp)]
  simp only [List.flatMap_def]
  rw [List.map_congr_left this]

/-- Where only the reader's own numbers changed (and new blocks came). -/
theorem CR.only {w w' : World} {base b : Nat} {s : ByteArray} {mv : Value} {T : Nat → Prop} {P : List Nat} {ms : List Mn} {A : St} (h : CR w base b s mv T P ms A) (hk : Kept (· = b) w w') {g : Sc} (hR : Ris w' b s mv g) (ht : g.t ≤ 40) : CR w' base b s mv T P ms { A with sc := g } :=
  ⟨hR, own_kept h.own hk (fun i hi e => h.nb (by rw [hi, e])), h.nb, h.ar.kept hk (fun _ _ x => x.1) (fun _ _ x => x), fun k hk' => Nat.lt_of_lt_of_le (h.told k hk') hk.size, h.mlt, h.bb, ht, h.mlen⟩
theorem CR.lt {w : World} {base b : Nat} {s : ByteArray} {mv : Value} {T : Nat → Prop} {P : List Nat} {ms : List Mn} {A : St} (h : CR w base b s mv T P ms A) : b < w.heap.size := h.ris.lt

/-- One more part. -/
theorem CR.add {w : World} {base b : Nat} {s : ByteArray} {mv : Value} {T : Nat → Prop} {P : List Nat} {ms : List Mn} {A : St} (h : CR w base b s mv T P ms A) (N : Nd) {vR vP : Value}
    (h1 : w.ownsRow base 118 2 vR N.rng.length (N.rng.flatMap rgV)) (h2 : ∀ j, vR.ownBlock = some j → j ≠ b ∧ mv.ownBlock ≠ some j ∧ ¬ T j)
    (h3 : w.ownsRow base 67 1 vP N.subs.length (N.subs.map (ptrAt P))) (h4 : ∀ j, vP.ownBlock = some j → j ≠ b ∧ mv.ownBlock ≠ some j ∧ ¬ T j) (hs : ∀ j ∈ N.subs, j < A.ns.length) :
    CR (w.alloc (.cells (ptC (kcode N.kind) 0 (N.term : Int) (ba N.text) vR vP) 79)) base b s mv T (P ++ [w.heap.size]) ms { A with ns := A.ns ++ [N] } := by
  have hk : Kept (fun _ => False) w (w.alloc (.cells (ptC (kcode N.kind) 0 (N.term : Int) (ba N.text) vR vP) 79)) := (Kept.refl _ _).alloc _
  have hb := h.lt
  refine ⟨h.ris.alloc _, ?_, h.nb, ?_, fun k hk' => Nat.lt_of_lt_of_le (h.told k hk') hk.size, fun m hm i hi => by have := h.mlt m hm i hi; simp; omega, h.bb, h.t40, by have := h.mlen; simp; omega⟩
  · rw [mnC_ext h.mlt]; exact h.own.alloc _
  · refine (h.ar.kept hk (fun _ _ _ x => x) (fun _ _ x => x)).push ⟨0, vR, vP, heap_alloc_new _ _, ⟨by omega, fun hx => ?_, fun hx => Nat.lt_irrefl _ (h.told _ hx)⟩, h1.alloc _, h2, h3.alloc _, h4⟩ hs (fun hx => Nat.lt_irrefl _ (h.ar.lt _ hx)) (by have := h.bb; omega)
    have := (h.own.lt _ hx).2; omega

/-- A bracket's number is no matter of the reader's. -/
theorem CR.setBrk {w : World} {base b : Nat} {s : ByteArray} {mv : Value} {T : Nat → Prop} {P : List Nat} {ms : List Mn} {A : St} (h : CR w base b s mv T P ms A) {x : Nat} (hx : x < A.ns.length) (z : Int) : CR (w.setCell ⟨P.getD x 0, 3, none⟩ (.int .i64 z)) base b s mv T P ms A := by
  obtain ⟨z0, vR, vP, h1, h2, _⟩ := h.ar.part x hx
  have hk : Kept (· = P.getD x 0) w (w.setCell ⟨P.getD x 0, 3, none⟩ (.int .i64 z)) := (Kept.refl (· = P.getD x 0) w).setCell (p := ⟨P.getD x 0, 3, none⟩) (fun _ => rfl) _
  have hty : ∀ (e size n : Nat) (v : Value) (xs : List Value), e ≠ 79 → w.ownsRow base e size v n xs → v.ownBlock ≠ some (P.getD x 0) := by
    intro e size n v xs he ho hv
    obtain ⟨c, hc⟩ := ownsRow_obj ho hv
    rw [show objAt w (P.getD x 0) = _ from h1] at hc
    simp at hc
    exact he hc.2.symm
  refine ⟨h.ris.kept hk (fun e => h2.1 e.symm), own_kept h.own hk (fun i hi e => h2.2.1 (by rw [hi, e])), h.nb, ⟨h.ar.len, h.ar.sub, fun i hi => ?_, h.ar.nd, h.ar.low⟩, fun k hk' => by have := h.told k hk'; simpa using this, h.mlt, h.bb, h.t40, h.mlen⟩
  obtain ⟨z1, vR1, vP1, g1, g2, g3, g4, g5, g6⟩ := h.ar.part i hi
  by_cases he : P.getD i 0 = P.getD x 0
  · refine ⟨z, vR1, vP1, ?_, g2, own_kept g3 hk (fun j hj e => hty _ _ _ _ _ (by decide) g3 (by rw [hj, e])), g4, own_kept g5 hk (fun j hj e => hty _ _ _ _ _ (by decide) g5 (by rw [hj, e])), g6⟩
    rw [← he, heap_set_at g1]
    simp [ptB]
  · refine ⟨z1, vR1, vP1, ?_, g2, own_kept g3 hk (fun j hj e => hty _ _ _ _ _ (by decide) g3 (by rw [hj, e])), g4, own_kept g5 hk (fun j hj e => hty _ _ _ _ _ (by decide) g5 (by rw [hj, e])), g6⟩
    rw [Below.heap_setCell _ _ _ _ (show P.getD i 0 ≠ _ from he)]; exact g1

theorem own_le {w : World} {base base' e size n : Nat} {v : Value} {xs : List Value} (h : w.ownsRow base e size v n xs) (hb : base' ≤ base) : w.ownsRow base' e size v n xs := by
  refine ⟨h.1, ?_⟩
  rcases h.2 with hv | ⟨g, cap, cur, hv, hg, rest⟩
  · exact .inl hv
  · exact .inr ⟨g, cap, cur, hv, Nat.le_trans hb hg, rest⟩

/-- What a function leaves that reads a part. -/
structure POut (base b : Nat) (s : ByteArray) (mv : Value) (T : Nat → Prop) (P : List Nat) (ms : List Mn) (A : St) (w : World) (X : St × Nat) (e : Ending) (w' : World) : Prop where
  ok : X.1.sc.bad < 0 → ∃ mv' P2 l, e = .returned (.tuple #[ptrAt (P ++ P2) X.2, .bool true]) ∧ X.1.ns = A.ns ++ l ∧ CR w' base b s mv' T (P ++ P2) (ms ++ mns A.ns.length l) X.1 ∧ Cs b mv mv' w w' ∧ X.2 < X.1.ns.length
  no : 0 ≤ X.1.sc.bad → ∃ v, e = .returned (.tuple #[v, .bool false]) ∧ Fails w w' b s mv X.1.sc.bad

theorem lit_bad {s : ByteArray} {g : Sc} (h : 0 ≤ g.bad) : (lit s g).2.bad = g.bad := by unfold lit; rw [litF_bad h]; rfl
theorem set_bad {s : ByteArray} {g : Sc} (h : 0 ≤ g.bad) : (set s g).2.bad = g.bad := by unfold set; rw [setF_bad h]; rfl
theorem tm_plain {g : Sc} (h : g.t ≠ 40) : tm g = { g with at_ := g.at_ + 1, t := g.t + 1 } := by unfold tm; rw [if_neg h]; rfl
theorem tm_bad {g : Sc} (h : g.t = 40) (hb : g.bad < 0) : (tm g).bad = g.at_ := by unfold tm; rw [if_pos h, wr_eq hb]; rfl

/-- terminal, as the ref's part has it. -/
def tmM (s : ByteArray) (A : St) : St × Nat :=
  if pk s A.sc = 46 then addN { A with sc := tm A.sc } { nd0 with kind := 2, term := A.sc.t }
  else if pk s A.sc = 39 then addN { A with sc := (lit s (tm A.sc)).2 } { nd0 with kind := 0, text := (lit s (tm A.sc)).1, term := A.sc.t }
  else addN { A with sc := (set s (tm A.sc)).2 } { nd0 with kind := 1, rng := (set s (tm A.sc)).1, term := A.sc.t }

theorem mns_none {o : Nat} {N : Nd} (h : N.kind ≠ 3) : mns o [N] = [] := by simp [mns, h]
theorem POut.one {w w' : World} {base b : Nat} {s : ByteArray} {mv : Value} {T : Nat → Prop} {P : List Nat} {ms : List Mn} {A : St} {N : Nd} {g : Sc} {k : Nat} {e : Ending} (hg : g.bad < 0) (hk3 : N.kind ≠ 3) (hl : P.length = A.ns.length)
    (hC : CR w' base b s mv T (P ++ [k]) ms ⟨g, A.ns ++ [N]⟩) (hS : Cs b mv mv w w') (he : e = .returned (.tuple #[.pointer (some ⟨k, 0, none⟩), .bool true])) : POut base b s mv T P ms A w (addN { A with sc := g } N) e w' := by
  refine ⟨fun _ => ⟨mv, [k], [N], ?_, rfl, ?_, hS, by simp [addN]⟩, fun h => absurd (show 0 ≤ g.bad from h) (by omega)⟩
  · rw [he]; unfold ptrAt addN; simp only; rw [getD_app_r (by omega), hl]; simp
  · rw [mns_none hk3, List.append_nil]; exact hC

set_option maxHeartbeats 1600000 in
theorem termT_any (base b : Nat) (s : ByteArray) (mv : Value) (T : Nat → Prop) (P : List Nat) (ms : List Mn) (A : St) (w : World) (hC : CR w base b s mv T P ms A) (hs : s.size ≤ 400) (hi : Iv s A.sc) (hb : A.sc.bad < 0)
    (hp : pk s A.sc = 46 ∨ pk s A.sc = 39 ∨ pk s A.sc = 91) :
    Calls Try.prog 66 #[.pointer (some ⟨b, 0, none⟩)] w fun e w' => POut base b s mv T P ms A w (tmM s A) e w' := by
  obtain ⟨c0, c1, c2, c3, c4⟩ := hC.ris.cells
  have hf := hC.ris.frozen 2
  have ht := hC.t40
  by_cases h40 : A.sc.t = 40
  · have HB : Hid ((tmM s A).1.sc.bad = A.sc.at_) := by
      have h1 := tm_bad h40 hb
      unfold Hid tmM
      split
      · exact h1
      · split
        · show (lit s (tm A.sc)).2.bad = _
          rw [lit_bad (by omega)]; exact h1
        · show (set s (tm A.sc)).2.bad = _
          rw [set_bad (by omega)]; exact h1
    go_enter Try.func66, Try.ntmps66
    go_wp2
    go_ret2
    exact ⟨fun h => absurd h (by rw [HB.out]; omega), fun _ => ⟨_, rfl, mv, A.sc, hC.ris, by rw [HB.out], Cs.refl _ _ _⟩⟩
  · have hT := tm_plain h40
    have q40 : ((A.sc.t : Int) == 40) = false := beq_eq_false_iff_ne.2 (by omega)
    have hR1 : Ris (w.setCell ⟨b, 2, none⟩ (.int .i64 ((A.sc.t + 1 : Nat) : Int))) b s mv { A.sc with t := A.sc.t + 1 } := hC.ris.setT _
    have hC1 := hC.only ((Kept.refl (· = b) w).setCell (p := ⟨b, 2, none⟩) (fun _ => rfl) (.int .i64 ((A.sc.t + 1 : Nat) : Int))) hR1 (show A.sc.t + 1 ≤ 40 by omega)
    have hK1 : Kept (· = b) w (w.setCell ⟨b, 2, none⟩ (.int .i64 ((A.sc.t + 1 : Nat) : Int))) := (Kept.refl (· = b) w).setCell (p := ⟨b, 2, none⟩) (fun _ => rfl) _
    obtain ⟨g1, hg1⟩ : ∃ g1, g1 = ({ A.sc with t := A.sc.t + 1 } : Sc) := ⟨_, rfl⟩
    rw [← hg1] at hR1 hC1
    have hb1 : g1.bad < 0 := by rw [hg1]; exact hb
    have ha1 : g1.at_ ≤ s.size := by rw [hg1]; exact hi.1 hb
    have hpk : pk s g1 = pk s A.sc := by rw [hg1]; rfl
    have hgt : g1.t ≤ 40 := by rw [hg1]; show A.sc.t + 1 ≤ 40; omega
    have HT : Hid (tm A.sc = adv g1) := by unfold Hid; rw [hT, hg1]; rfl
    have hlt : g1.at_ < s.size := by rw [hg1]; exact (pk_pos (s := s) (g := A.sc) (by omega)).2.1
    have hi1 : Iv s (adv g1) := ⟨fun _ => by rw [adv_at]; omega, by rw [adv_at]; omega⟩
    have ht1 := pk_nx (s := s) hb1 ha1 (c := 39) (by decide)
    have ht2 := pk_nx (s := s) hb1 ha1 (c := 91) (by decide)
    have ht3 := pk_nx (s := s) hb1 ha1 (c := 46) (by decide)
    rw [hpk] at ht1 ht2 ht3
    clear hT hpk hg1
    have hlen := hC.ar.len
    have hbase : base ≤ w.heap.size := by have := hC.bb; have := hC.lt; omega
    go_enter Try.func66, Try.ntmps66
    go_wp2_with fail
    refine (take_any b s mv g1 39 _ hR1 hs ha1 (by decide)).mono ?_
    rintro e w2 ⟨rfl, hR2, hK2⟩
    have hK2' := hK1.trans hK2
    have hz2 := hK2'.size
    by_cases h39 : pk s A.sc = 39
    · rw [h39] at ht1
      have hq : tkB s g1 39 = true := by rw [ht1]; rfl
      have HX : Hid (tmM s A = addN { A with sc := (lit s (adv g1)).2 } { nd0 with kind := 0, text := (lit s (adv g1)).1, term := A.sc.t }) := by
        unfold Hid tmM; rw [if_neg (by omega), if_pos h39, HT.out]
      have hR2' : Ris w2 b s mv (adv g1) := by unfold tk at hR2; rw [hq] at hR2; exact hR2
      rw [hq]
      clear ht1 ht2 ht3 hq hR2 h39 hp HT
      go_wp2_with fail
      refine (literal_any b s mv (adv g1) _ hR2' hs hi1 hb1).mono ?_
      rintro e w3 ⟨⟨tx, rfl, htx⟩, hE, hK3⟩
      have hK3' := hK2'.trans hK3
      have hlt3 := (lit_facts hi1 (by rw [adv_at]; omega)).2.2.2.1
      rw [adv_t] at hlt3
      generalize lit s (adv g1) = LL at *
      obtain ⟨l, g3⟩ := LL
      dsimp only at *
      cases hq3 : decide (g3.bad < 0)
      · have hb3 : 0 ≤ g3.bad := by simpa using hq3
        obtain ⟨g4, hR4, h4⟩ := hE.bad hb3
        go_wp2
        go_ret2
        rw [HX.out]
        exact ⟨fun h => absurd (show g3.bad < 0 from h) (by omega), fun _ => ⟨_, rfl, mv, g4, hR4.alloc _, h4, Cs.only (hK3'.alloc _)⟩⟩
      · have hb3 : g3.bad < 0 := by simpa using hq3
        have ht := htx hb3
        subst ht
        have hC3 := hC.only hK3' (hE.good hb3) (by omega)
        have hC4 := hC3.add { nd0 with kind := 0, text := l, term := A.sc.t } (World.ownsRow_nil _ _ _ _) (by simp [Value.ownBlock]) (World.ownsRow_nil _ _ _ _) (by simp [Value.ownBlock]) (by simp [nd0])
        go_wp2
        go_ret2
        rw [HX.out]
        exact POut.one hb3 (by simp [nd0]) hlen hC4 (Cs.only (hK3'.alloc _)) rfl
    · have hq : tkB s g1 39 = false := by rw [ht1]; simpa using h39
      have hR2' : Ris w2 b s mv g1 := by unfold tk at hR2; rw [hq] at hR2; exact hR2
      rw [hq]
      clear ht1 hq hR2
      go_wp2_with fail
      refine (take_any b s mv g1 91 _ hR2' hs ha1 (by decide)).mono ?_
      rintro e w3 ⟨rfl, hR3, hK3⟩
      have hK3' := hK2'.trans hK3
      have hz3 := hK3'.size
      by_cases h91 : pk s A.sc = 91
      · rw [h91] at ht2
        have hq : tkB s g1 91 = true := by rw [ht2]; rfl
        have HX : Hid (tmM s A = addN { A with sc := (set s (adv g1)).2 } { nd0 with kind := 1, rng := (set s (adv g1)).1, term := A.sc.t }) := by
          unfold Hid tmM; rw [if_neg (by omega), if_neg (by omega), HT.out]
        have hR3' : Ris w3 b s mv (adv g1) := by unfold tk at hR3; rw [hq] at hR3; exact hR3
        rw [hq]
        clear ht2 ht3 hq hR3 h39 h91 hp HT
        go_wp2_with fail
        refine (ranges_any b s mv (adv g1) _ hR3' hs hi1 hb1).mono ?_
        rintro e w4 ⟨⟨v, rfl, hv, hv0⟩, hE, hK4⟩
        have hK4' := hK3'.trans hK4
        have hlt3 := (set_facts hi1 (by rw [adv_at]; omega)).2.2.2.1
        rw [adv_t] at hlt3
        generalize set s (adv g1) = LL at *
        obtain ⟨l, g3⟩ := LL
        dsimp only at *
        cases hq3 : decide (g3.bad < 0)
        · have hb3 : 0 ≤ g3.bad := by simpa using hq3
          obtain ⟨g4, hR4, h4⟩ := hE.bad hb3
          have hv' := hv0 hb3
          subst hv'
          go_wp2_with fail
          refine (classOf_any _ _ _ _ _).mono ?_
          rintro e w5 ⟨rfl, rfl⟩
          go_wp2
          go_ret2
          rw [HX.out]
          exact ⟨fun h => absurd (show g3.bad < 0 from h) (by omega), fun _ => ⟨_, rfl, mv, g4, hR4.alloc _, h4, Cs.only (hK4'.alloc _)⟩⟩
        · have hb3 : g3.bad < 0 := by simpa using hq3
          have hown := hv hb3
          obtain ⟨pp, cap, hvf⟩ := ownsRow_form hown
          have hC3 := hC.only hK4' (hE.good hb3) (by omega)
          have hC4 := hC3.add { nd0 with kind := 1, rng := l, term := A.sc.t } (own_le hown (by omega)) (fun j hj => by
            have := (hown.lt j hj).1
            have h5 := hC.lt
            exact ⟨by omega, fun hx => by have := (hC.own.lt j hx).2; omega, fun hx => by have := hC.told j hx; omega⟩) (World.ownsRow_nil _ _ _ _) (by simp [Value.ownBlock]) (by simp [nd0])
          subst hvf
          go_wp2_with fail
          refine (classOf_any _ _ _ _ _).mono ?_
          rintro e w5 ⟨rfl, rfl⟩
          go_wp2
          go_ret2
          rw [HX.out]
          exact POut.one hb3 (by simp [nd0]) hlen hC4 (Cs.only (hK4'.alloc _)) rfl
      · have h46 : pk s A.sc = 46 := by omega
        have hq : tkB s g1 91 = false := by rw [ht2]; simpa using h91
        have hR3' : Ris w3 b s mv g1 := by unfold tk at hR3; rw [hq] at hR3; exact hR3
        rw [hq]
        rw [h46] at ht3
        have hq2 : tkB s g1 46 = true := by rw [ht3]; rfl
        have HX : Hid (tmM s A = addN { A with sc := adv g1 } { nd0 with kind := 2, term := A.sc.t }) := by
          unfold Hid tmM; rw [if_pos h46, HT.out]
        clear ht2 ht3 hq hR3 h39 h91 hp HT
        have hC3 := hC.only hK3' hR3' hgt
        have hC4 := hC3.add { nd0 with kind := 2, term := A.sc.t } (World.ownsRow_nil _ _ _ _) (by simp [Value.ownBlock]) (World.ownsRow_nil _ _ _ _) (by simp [Value.ownBlock]) (by simp [nd0])
        go_wp2_with fail
        refine (take_any b s mv g1 46 _ hC4.ris hs ha1 (by decide)).mono ?_
        rintro e w5 ⟨rfl, hR5, hK5⟩
        have hR5' : Ris w5 b s mv (adv g1) := by unfold tk at hR5; rw [hq2] at hR5; exact hR5
        have hC5 := hC4.only hK5 hR5' hgt
        rw [hq2]
        go_wp2
        go_ret2
        rw [HX.out]
        exact POut.one hb1 (by simp [nd0]) hlen hC5 (Cs.only ((hK3'.alloc _).trans hK5)) rfl
end Go.Proofs.Ytagklnaaoclmhaa
