import Derived.Test.YtagklnaaoclmhaaRefK
set_option linter.unusedSimpArgs false
set_option linter.unusedVariables false
namespace Go.Proofs.Ytagklnaaoclmhaa
open Go.RowKit

structure Rl where
  name : List UInt8
  at_ : Nat
  is : Nat

/-- A rule is read. -/
def ruleM (s : ByteArray) (X : St) : St × Rl :=
  ({ (choD s 6 { X with sc := mu s (word s X.sc).2 61 }).1 with sc := mu s (choD s 6 { X with sc := mu s (word s X.sc).2 61 }).1.sc 10 },
    ⟨(word s X.sc).1, (word s X.sc).2.at_ - (word s X.sc).1.length, (choD s 6 { X with sc := mu s (word s X.sc).2 61 }).2⟩)
def readF (s : ByteArray) : Nat → St → List Rl → St × List Rl
  | 0, X, rs => (X, rs)
  | f + 1, X, rs =>
    if X.sc.bad < 0 ∧ (X.sc.at_ < s.size ∨ rs.length = 0) then
      if rs.length = 8 then ({ X with sc := wr X.sc }, rs) else readF s f (ruleM s X).1 (rs ++ [(ruleM s X).2])
    else (X, rs)
def read (s : ByteArray) : St × List Rl := readF s 10 ⟨⟨0, -1, 0, 0⟩, []⟩ []

def rlCells (r : Rl) : List Value := [.string (ba r.name), .int .i64 (r.at_ : Int), .int .i64 (r.is : Int)]
def RulesAt (w : World) (base : Nat) (rv : Value) (rs : List Rl) : Prop := w.ownsRow base 44 3 rv rs.length (rs.flatMap rlCells)

theorem wd_len {s : ByteArray} : ∀ f acc g, (wd s f acc g).1.length + g.at_ ≤ acc.length + (wd s f acc g).2.at_
  | 0, acc, g => by simp [wd]
  | f + 1, acc, g => by
    rw [wd]
    cases hl : letterB (pk s g : Int)
    · simp only [Bool.false_eq_true, if_false]
      split
      · rw [wr_at]; omega
      · omega
    · simp only [if_true]
      split
      · simp only; rw [wr_at]; omega
      · have := wd_len (s := s) f (acc ++ [(pk s g).toUInt8]) (adv g)
        simp only [List.length_append, List.length_cons, List.length_nil, adv_at] at this
        omega
theorem word_len (s : ByteArray) (g : Sc) : (word s g).1.length ≤ (word s g).2.at_ := by
  have := wd_len (s := s) 10 [] (bl s g)
  unfold word
  simp only [List.length_nil] at this
  omega
theorem wd_len8 {s : ByteArray} : ∀ f acc g, acc.length ≤ 8 → (wd s f acc g).1.length ≤ 8
  | 0, acc, g, h => h
  | f + 1, acc, g, h => by
    rw [wd]
    split
    · split
      · exact h
      · exact wd_len8 f _ _ (by simp; omega)
    · exact h
theorem word_len8 (s : ByteArray) (g : Sc) : (word s g).1.length ≤ 8 := wd_len8 10 [] _ (by simp)

/-- Behind a rule. -/
theorem rule_ok {s : ByteArray} {X : St} (h : Ok s X) (ho : X.sc.op = 0) (hb : X.sc.bad < 0) :
    Ok s { X with sc := mu s (word s X.sc).2 61 } ∧ (ruleM s X).1.sc.op = 0 ∧ Ok s (ruleM s X).1 ∧ (mu s (word s X.sc).2 61).op = 0 ∧ (choD s 6 { X with sc := mu s (word s X.sc).2 61 }).1.ns.length ≤ 4000 := by
  obtain ⟨w1, w2, w3⟩ := word_fs h.iv
  have m1 := Fs.mu w1.iv 61
  have f1 := w1.trans m1
  have t1 : (mu s (word s X.sc).2 61).t = X.sc.t := by rw [mu_t, w2]
  have hok := h.sc f1 t1
  have hop : (mu s (word s X.sc).2 61).op = 0 := by rw [f1.op, ho]
  have hlt : rest s (mu s (word s X.sc).2 61) + 1 ≤ rest s X.sc := by
    refine rest_lt h.iv hb (fun x => ?_)
    have := w3 (m1.good x)
    have := m1.ge
    omega
  unfold ruleM
  generalize mu s (word s X.sc).2 61 = g at *
  have hc := choD_good s 5 { X with sc := g } hok.iv (by dsimp only; omega)
  generalize choD s (5 + 1) { X with sc := g } = Y at *
  change _ ∧ (mu s Y.1.sc 10).op = 0 ∧ Ok s { Y.1 with sc := mu s Y.1.sc 10 } ∧ g.op = 0 ∧ Y.1.ns.length ≤ 4000
  have m2 := Fs.mu hc.iv 10
  have t2 := mu_t s Y.1.sc 10
  have a1 := hc.op
  have a2 := hc.tn
  have a3 := hc.pot'
  have a4 := h.pt
  have a5 := h.t
  have a6 := m2.rest
  have a7 := m2.op
  unfold Pt at a3 a4
  dsimp only at *
  refine ⟨hok, by omega, ⟨m2.iv, by dsimp only; omega, by unfold Pt; dsimp only; omega, by dsimp only; omega, h.size⟩, hop, by omega⟩

theorem info44 : (Try.prog.info? 44).map (fun i => (i.zero, i.size, i.bytes)) = some (some (.agg #[.string ⟨#[]⟩, .int .i64 0, .int .i64 0]), 3, 32) := by kernel_rfl

theorem RulesAt.stp {w w' : World} {base b H : Nat} {s : ByteArray} {nv nv' rv : Value} {U U' : Nat → Prop} {A : St} {rs : List Rl} (h : RulesAt w base rv rs) (hR : RG w base b s nv rv U A) (hS : Stp H b nv nv' U U' w w') : RulesAt w' base rv rs :=
  ownsRow_kept h hS.kept (fun k e => by
    obtain ⟨x, hx⟩ := ownsRow_obj h e
    rintro (e' | e')
    · subst e'
      obtain ⟨y, hy⟩ := hR.gis.obj
      rw [hx] at hy; simp at hy
    · obtain ⟨y, hy⟩ := hR.nvb e'
      rw [hx] at hy; simp at hy)

/-- Nothing old has turned. -/
theorem Stp.old {w w1 w2 : World} {base b H : Nat} {s : ByteArray} {nv nv' rv : Value} {U U' : Nat → Prop} {A : St} (h : Kept (fun _ => False) w w1) (hR : RG w1 base b s nv rv U A) (hS : Stp H b nv nv' U U' w1 w2) (hb : w.heap.size ≤ b) (hbase : w.heap.size ≤ base) : Kept (fun _ => False) w w2 :=
  h.then hS.kept (fun i hi e => by
    rcases e with e | e
    · omega
    · obtain ⟨cs, _, ho, _⟩ := hR.nodes
      have := (ho.lt i e).1
      omega)

theorem rules_gis {w w9 : World} {base b : Nat} {s : ByteArray} {nv rv : Value} {U : Nat → Prop} {A : St} {rs : List Rl} {o : Obj} (hR : RG w base b s nv rv U A) (hRu : RulesAt w base rv rs) (hgrow : (w.alloc o).grownBy w9 rv.ownBlock) : Gis w9 b s nv rv A.sc := by
  have hK : Kept (fun k => rv.ownBlock = some k) w w9 := ((Kept.refl _ w).alloc _).grown hgrow (fun k e _ => e)
  exact hR.gis.kept hK (fun e => by
    obtain ⟨x, hx⟩ := ownsRow_obj hRu e
    obtain ⟨y, hy⟩ := hR.gis.obj
    rw [hx] at hy; simp at hy)
/-- A rule more. -/
theorem rules_app {w w9 : World} {base b gg cap : Nat} {s : ByteArray} {nv rv : Value} {U : Nat → Prop} {A : St} {rs : List Rl} {r : Rl} {o : Obj} (hR : RG w base b s nv rv U A) (hRu : RulesAt w base rv rs) (hgrow : (w.alloc o).grownBy w9 rv.ownBlock)
    (hown : w9.ownsRow base 44 3 (.slice (some ⟨gg, 0, none⟩) (rs.length + 1) cap) (rs.length + 1) (rs.flatMap rlCells ++ rlCells r)) :
    RG (w9.setCell ⟨b, 1, none⟩ (.slice (some ⟨gg, 0, none⟩) (rs.length + 1) cap)) base b s nv (.slice (some ⟨gg, 0, none⟩) (rs.length + 1) cap) U A ∧
    RulesAt (w9.setCell ⟨b, 1, none⟩ (.slice (some ⟨gg, 0, none⟩) (rs.length + 1) cap)) base (.slice (some ⟨gg, 0, none⟩) (rs.length + 1) cap) (rs ++ [r]) ∧
    Kept (fun k => k = b ∨ rv.ownBlock = some k) w (w9.setCell ⟨b, 1, none⟩ (.slice (some ⟨gg, 0, none⟩) (rs.length + 1) cap)) := by
  have hK : Kept (fun k => k = b ∨ rv.ownBlock = some k) w w9 := ((Kept.refl _ w).alloc _).grown hgrow (fun k e _ => Or.inr e)
  have hK' : Kept (fun k => k = b ∨ rv.ownBlock = some k) w (w9.setCell ⟨b, 1, none⟩ (.slice (some ⟨gg, 0, none⟩) (rs.length + 1) cap)) := hK.setCell (fun _ => Or.inl rfl) _
  have hG9 := rules_gis hR hRu hgrow
  have hG := hG9.setRules (.slice (some ⟨gg, 0, none⟩) (rs.length + 1) cap)
  obtain ⟨yb, hyb⟩ := hR.gis.obj
  have hgb : gg ≠ b := by
    rintro rfl
    obtain ⟨x, hx⟩ := ownsRow_obj hown (k := gg) rfl
    obtain ⟨y, hy⟩ := hG9.obj
    rw [hx] at hy; simp at hy
  refine ⟨⟨hG, hR.nodes.kept hK' (fun k e => ?_) (fun k c hu ho => ?_), Nat.le_trans hR.hb hK'.size, fun k x => Nat.lt_of_lt_of_le (hR.low k x) hK'.size⟩, ?_, hK'⟩
  · obtain ⟨x, hx⟩ := hR.nvb e
    rintro (e' | e')
    · subst e'; rw [hx] at hyb; simp at hyb
    · obtain ⟨y, hy⟩ := ownsRow_obj hRu e'
      rw [hx] at hy; simp at hy
  · rintro (e' | e')
    · subst e'; rw [ho] at hyb; simp at hyb
    · obtain ⟨y, hy⟩ := ownsRow_obj hRu e'
      rw [ho] at hy; simp at hy
  · have := ownsRow_setCell_other hown (a := ⟨b, 1, none⟩) (by simp only [Value.ownBlock]; intro e; simp at e; exact hgb e) (.slice (some ⟨gg, 0, none⟩) (rs.length + 1) cap)
    unfold RulesAt
    simpa using this

theorem ownsRow_form {w : World} {base e size n : Nat} {v : Value} {xs : List Value} (h : w.ownsRow base e size v n xs) : ∃ p cap, v = .slice p n cap := by
  rcases h.2 with ⟨h1, h2⟩ | ⟨g, cap, cur, hv, _⟩
  · exact ⟨none, 0, by rw [h1, h2]⟩
  · exact ⟨_, _, hv⟩

set_option maxRecDepth 100000 in
set_option maxHeartbeats 6400000 in
/-- Read. -/
theorem read_any (s : ByteArray) (w : World) (hs : s.size ≤ 400) :
    Calls Try.prog 9 #[.string s] w fun e w' => e = .returned (.pointer (some ⟨w.heap.size, 0, none⟩)) ∧ ∃ nv rv U, RG w' w.heap.size w.heap.size s nv rv U (read s).1 ∧ RulesAt w' w.heap.size rv (read s).2 ∧ Kept (fun _ => False) w w' := by
  obtain ⟨i0, hi0, hz0, hz1, hz2⟩ := info_parts info44
  obtain ⟨b, hb⟩ : ∃ b, b = w.heap.size := ⟨_, rfl⟩
  rw [← hb]
  have hR0 : RG (w.alloc (.cells #[.slice none 0 0, .slice none 0 0, .int .i64 0, .int .i64 (-1), .string s, .int .i64 0, .int .i64 0] 39)) b b s (.slice none 0 0) (.slice none 0 0) (fun _ => False) ⟨⟨0, -1, 0, 0⟩, []⟩ := by
    subst hb
    exact ⟨objAt_new w _, ⟨[], rfl, World.ownsRow_nil _ _ _ _, fun i c N h => by cases h⟩, by simp, fun _ h => h.elim⟩
  have hK0 : Kept (fun _ => False) w (w.alloc (.cells #[.slice none 0 0, .slice none 0 0, .int .i64 0, .int .i64 (-1), .string s, .int .i64 0, .int .i64 0] 39)) := (Kept.refl _ w).alloc _
  have HB := hide hb
  have HL : Hid (readF s (8 + 2) ⟨⟨0, -1, 0, 0⟩, []⟩ [] = read s) := rfl
  generalize read s = L at *
  go_enter Try.func9, Try.ntmps9
  go_wp2_with fail
  rw [← hb]
  generalize hw0 : (w.alloc (.cells #[.slice none 0 0, .slice none 0 0, .int .i64 0, .int .i64 (-1), .string s, .int .i64 0, .int .i64 0] 39)) = w0 at *
  clear hw0 hb
  go_loopg [] 8 (fun n wx => ∃ X rs nv rv U, RG wx b b s nv rv U X ∧ RulesAt wx b rv rs ∧ (X.sc.bad < 0 → Ok s X) ∧ X.sc.op = 0 ∧ rs.length + n = 8 ∧ X.sc.at_ ≤ 10000 ∧ Kept (fun _ => False) w wx ∧ Hid (readF s (n + 2) X rs = L))
  case atStart =>
    refine ⟨_, [], _, _, _, hR0, World.ownsRow_nil _ _ _ _, fun _ => ⟨⟨fun _ => Nat.zero_le _, Nat.zero_le _⟩, by simp, by simp [Pt, rest]; omega, by simp, hs⟩, rfl, rfl, by simp, hK0, HL⟩
  case round =>
    obtain ⟨X, rs, nv, rv, U, hR, hRu, hOk, hop, hn, hat, hK, HR⟩ := hrel
    obtain ⟨p, cap0, hrv⟩ := ownsRow_form hRu
    subst hrv
    obtain ⟨c0, c1, c2, c3, c4, c5, c6⟩ := hR.gis.cells
    by_cases hbad : X.sc.bad < 0
    · by_cases hlt : X.sc.at_ < s.size
      · by_cases h8 : rs.length = 8
        · have q8 : ((rs.length : Int) == 8) = true := by simp; omega
          have h1 := HR.out
          rw [readF, if_pos (⟨hbad, Or.inl hlt⟩), if_pos h8] at h1
          subst h1
          have H8 := hide h8
          clear h8 HR
          go_wp2_with fail
          refine (wrong_any b s nv _ X.sc _ hR.gis).mono ?_
          rintro e w2 ⟨rfl, hG2, hK2⟩
          have hS2 : Stp wr.heap.size b nv nv U U wr w2 := Stp.only hK2
          go_wp2
          go_ret
          exact ⟨rfl, nv, _, ⟨U, hR.only hK2 hG2⟩, hRu.stp hR hS2, hS2.old hK hR (by have := HB.out; omega) (by have := HB.out; omega)⟩
        · have q8 : ((rs.length : Int) == 8) = false := by simp; omega
          have h1 := HR.out
          rw [readF, if_pos (⟨hbad, Or.inl hlt⟩), if_neg h8] at h1
          have H1 := hide h1
          have HN : Hid (rs.length + gk = 8 ∧ rs.length ≠ 8) := ⟨hn, h8⟩
          have hrl : rs.length ≤ 9 := by omega
          clear h1 HR h8 hn
          obtain ⟨k1, k2, k3, k4, k5⟩ := rule_ok (hOk hbad) hop hbad
          have hwl := word_len s X.sc
          have hwa : (word s X.sc).2.at_ ≤ 401 := by have := (word_fs (hOk hbad).iv).1.iv.2; omega
          have HRU : Hid (ruleM s X = ({ (choD s 6 { X with sc := mu s (word s X.sc).2 61 }).1 with sc := mu s (choD s 6 { X with sc := mu s (word s X.sc).2 61 }).1.sc 10 }, ⟨(word s X.sc).1, (word s X.sc).2.at_ - (word s X.sc).1.length, (choD s 6 { X with sc := mu s (word s X.sc).2 61 }).2⟩)) := rfl
          generalize ruleM s X = RR at *
          go_wp2_with fail
          refine (word_any b s nv _ X.sc _ hR.gis hs hat).mono ?_
          rintro e w2 ⟨rfl, hG2, hK2⟩
          generalize word s X.sc = wd1 at *
          obtain ⟨nm, g2⟩ := wd1
          dsimp only at *
          obtain ⟨d0, d1, d2, d3, d4, d5, d6⟩ := hG2.cells
          have hsz : (ba nm).size = nm.length := by simp [ba, ByteArray.size]
          go_wp2_with fail
          refine (must_any b s nv _ g2 61 _ hG2 hs).mono ?_
          rintro e w3 ⟨rfl, hG3, hK3⟩
          have hK3' : Kept (· = b) wr w3 := hK2.trans hK3
          have hR3 := hR.only hK3' hG3
          have hS3 : Stp wr.heap.size b nv nv U U wr w3 := Stp.only hK3'
          generalize mu s g2 61 = g3 at *
          clear d0 d1 d2 d3 d4 d5 d6 hG2 hK2 hK3 hG3 hK3'
          go_wp2_with fail
          refine (choD_does s 5 b b nv _ U { X with sc := g3 } _ hR3 k1 (by dsimp only; omega)).mono ?_
          rintro e w4 ⟨rfl, nv4, U4, hR4, hS4⟩
          have hS4' := hS3.trans hS4
          change RG w4 b b s nv4 _ U4 (choD s 6 { X with sc := g3 }).1 at hR4
          have HX4 : Hid ((choD s (5 + 1) { X with sc := g3 }).2 = (choD s 6 { X with sc := g3 }).2) := rfl
          rw [HX4.out]
          clear HX4
          generalize choD s 6 { X with sc := g3 } = Y at *
          obtain ⟨B, x⟩ := Y
          dsimp only at *
          go_wp2_with fail
          refine (must_any b s nv4 _ B.sc 10 _ hR4.gis hs).mono ?_
          rintro e w5 ⟨rfl, hG5, hK5⟩
          have hS5 : Stp wr.heap.size b nv nv4 U U4 wr w5 := hS4'.trans (Stp.only hK5)
          have hR5 := hR4.only hK5 hG5
          generalize mu s B.sc 10 = g5 at *
          have hRu5 := hRu.stp hR hS5
          have hK5' := hS5.old hK hR (by have := HB.out; omega) (by have := HB.out; omega)
          obtain ⟨d0, d1, d2, d3, d4, d5, d6⟩ := hG5.cells
          have hbl := hG5.lt
          have hf1 := hG5.frozen 1
          have hbase := hR5.hb
          clear hR4 hS4 hS4' hR3 hS3 hK5 c0 c1 c2 c3 c4 c5 c6
          go_wp2_with (at_builtin; refine wpList_append_lies _ rfl _ _ _ rfl b 44 i0 _ 3 32 Try.underlying37 hi0 hz0 hz1 hz2 rfl (by omega) _ rs.length (rs.flatMap rlCells) (by rfl) (World.ownsRow.alloc hRu5 _) ⟨w5.heap.size, 0, none⟩ 1 1 [.string (ba nm), .int .i64 ((g2.at_ : Int) - (nm.length : Int)), .int .i64 (x : Int)] (by rfl) rfl (World.news_of_block (cs := #[.string (ba nm), .int .i64 ((g2.at_ : Int) - (nm.length : Int)), .int .i64 (x : Int)]) (t := 44) (fr := (0, 0)) (heap_alloc_new w5 _)) (by simp [Value.oneCell']) (by omega) (by simp [maxLen]; omega) (by omega) (by simp; omega) (w5.heap.size + 1) (by simp) ?_; intro gg cap w9 hown hgrow hat9 hlt; have hG9 := rules_gis hR5 hRu5 hgrow; obtain ⟨f0, f1, f2, f3, f4, f5, f6⟩ := hG9.cells; have hf9 := hG9.frozen 1)
          have hcast : ((g2.at_ : Int) - (nm.length : Int)) = ((g2.at_ - nm.length : Nat) : Int) := by omega
          rw [hcast] at hown
          obtain ⟨hR10, hRu10, hK10⟩ := rules_app (r := ⟨nm, g2.at_ - nm.length, x⟩) hR5 hRu5 hgrow hown
          have hK11 := hK5'.then hK10 (fun i hi e => by
            rcases e with e | e
            · have := HB.out; omega
            · have := (World.ownsRow.lt hRu5 i e).1; have := HB.out; omega)
          go_roundg (gk - 1)
          case measure => have := HN.out; omega
          case rel =>
            have h9 := HN.out
            have e1 := HRU.out
            have hk3 := k3
            have hk2 := k2
            rw [e1] at hk3 hk2
            refine ⟨_, rs ++ [⟨nm, g2.at_ - nm.length, x⟩], nv4, _, U4, hR10, hRu10, fun _ => hk3, hk2, by simp; omega, by have := hk3.at_; dsimp only at this; dsimp only; omega, hK11, ?_⟩
            have h2 := H1.out
            rw [e1] at h2
            rw [show gk - 1 + 2 = gk + 1 by omega]
            exact h2
      · by_cases h0 : rs.length = 0
        · have q0 : ((rs.length : Int) == 0) = true := beq_iff_eq.2 (by omega)
          have H0 := hide h0
          clear h0
          by_cases h8 : rs.length = 8
          · have q8 : ((rs.length : Int) == 8) = true := by simp; omega
            have h1 := HR.out
            rw [readF, if_pos (⟨hbad, Or.inr H0.out⟩), if_pos h8] at h1
            subst h1
            have H8 := hide h8
            clear h8 HR
            go_wp2_with fail
            refine (wrong_any b s nv _ X.sc _ hR.gis).mono ?_
            rintro e w2 ⟨rfl, hG2, hK2⟩
            have hS2 : Stp wr.heap.size b nv nv U U wr w2 := Stp.only hK2
            go_wp2
            go_ret
            exact ⟨rfl, nv, _, ⟨U, hR.only hK2 hG2⟩, hRu.stp hR hS2, hS2.old hK hR (by have := HB.out; omega) (by have := HB.out; omega)⟩
          · have q8 : ((rs.length : Int) == 8) = false := by simp; omega
            have h1 := HR.out
            rw [readF, if_pos (⟨hbad, Or.inr H0.out⟩), if_neg h8] at h1
            have H1 := hide h1
            have HN : Hid (rs.length + gk = 8 ∧ rs.length ≠ 8) := ⟨hn, h8⟩
            have hrl : rs.length ≤ 9 := by omega
            clear h1 HR h8 hn
            obtain ⟨k1, k2, k3, k4, k5⟩ := rule_ok (hOk hbad) hop hbad
            have hwl := word_len s X.sc
            have hwa : (word s X.sc).2.at_ ≤ 401 := by have := (word_fs (hOk hbad).iv).1.iv.2; omega
            have HRU : Hid (ruleM s X = ({ (choD s 6 { X with sc := mu s (word s X.sc).2 61 }).1 with sc := mu s (choD s 6 { X with sc := mu s (word s X.sc).2 61 }).1.sc 10 }, ⟨(word s X.sc).1, (word s X.sc).2.at_ - (word s X.sc).1.length, (choD s 6 { X with sc := mu s (word s X.sc).2 61 }).2⟩)) := rfl
            generalize ruleM s X = RR at *
            go_wp2_with fail
            refine (word_any b s nv _ X.sc _ hR.gis hs hat).mono ?_
            rintro e w2 ⟨rfl, hG2, hK2⟩
            generalize word s X.sc = wd1 at *
            obtain ⟨nm, g2⟩ := wd1
            dsimp only at *
            obtain ⟨d0, d1, d2, d3, d4, d5, d6⟩ := hG2.cells
            have hsz : (ba nm).size = nm.length := by simp [ba, ByteArray.size]
            go_wp2_with fail
            refine (must_any b s nv _ g2 61 _ hG2 hs).mono ?_
            rintro e w3 ⟨rfl, hG3, hK3⟩
            have hK3' : Kept (· = b) wr w3 := hK2.trans hK3
            have hR3 := hR.only hK3' hG3
            have hS3 : Stp wr.heap.size b nv nv U U wr w3 := Stp.only hK3'
            generalize mu s g2 61 = g3 at *
            clear d0 d1 d2 d3 d4 d5 d6 hG2 hK2 hK3 hG3 hK3'
            go_wp2_with fail
            refine (choD_does s 5 b b nv _ U { X with sc := g3 } _ hR3 k1 (by dsimp only; omega)).mono ?_
            rintro e w4 ⟨rfl, nv4, U4, hR4, hS4⟩
            have hS4' := hS3.trans hS4
            change RG w4 b b s nv4 _ U4 (choD s 6 { X with sc := g3 }).1 at hR4
            have HX4 : Hid ((choD s (5 + 1) { X with sc := g3 }).2 = (choD s 6 { X with sc := g3 }).2) := rfl
            rw [HX4.out]
            clear HX4
            generalize choD s 6 { X with sc := g3 } = Y at *
            obtain ⟨B, x⟩ := Y
            dsimp only at *
            go_wp2_with fail
            refine (must_any b s nv4 _ B.sc 10 _ hR4.gis hs).mono ?_
            rintro e w5 ⟨rfl, hG5, hK5⟩
            have hS5 : Stp wr.heap.size b nv nv4 U U4 wr w5 := hS4'.trans (Stp.only hK5)
            have hR5 := hR4.only hK5 hG5
            generalize mu s B.sc 10 = g5 at *
            have hRu5 := hRu.stp hR hS5
            have hK5' := hS5.old hK hR (by have := HB.out; omega) (by have := HB.out; omega)
            obtain ⟨d0, d1, d2, d3, d4, d5, d6⟩ := hG5.cells
            have hbl := hG5.lt
            have hf1 := hG5.frozen 1
            have hbase := hR5.hb
            clear hR4 hS4 hS4' hR3 hS3 hK5 c0 c1 c2 c3 c4 c5 c6
            go_wp2_with (at_builtin; refine wpList_append_lies _ rfl _ _ _ rfl b 44 i0 _ 3 32 Try.underlying37 hi0 hz0 hz1 hz2 rfl (by omega) _ rs.length (rs.flatMap rlCells) (by rfl) (World.ownsRow.alloc hRu5 _) ⟨w5.heap.size, 0, none⟩ 1 1 [.string (ba nm), .int .i64 ((g2.at_ : Int) - (nm.length : Int)), .int .i64 (x : Int)] (by rfl) rfl (World.news_of_block (cs := #[.string (ba nm), .int .i64 ((g2.at_ : Int) - (nm.length : Int)), .int .i64 (x : Int)]) (t := 44) (fr := (0, 0)) (heap_alloc_new w5 _)) (by simp [Value.oneCell']) (by omega) (by simp [maxLen]; omega) (by omega) (by simp; omega) (w5.heap.size + 1) (by simp) ?_; intro gg cap w9 hown hgrow hat9 hlt; have hG9 := rules_gis hR5 hRu5 hgrow; obtain ⟨f0, f1, f2, f3, f4, f5, f6⟩ := hG9.cells; have hf9 := hG9.frozen 1)
            have hcast : ((g2.at_ : Int) - (nm.length : Int)) = ((g2.at_ - nm.length : Nat) : Int) := by omega
            rw [hcast] at hown
            obtain ⟨hR10, hRu10, hK10⟩ := rules_app (r := ⟨nm, g2.at_ - nm.length, x⟩) hR5 hRu5 hgrow hown
            have hK11 := hK5'.then hK10 (fun i hi e => by
              rcases e with e | e
              · have := HB.out; omega
              · have := (World.ownsRow.lt hRu5 i e).1; have := HB.out; omega)
            go_roundg (gk - 1)
            case measure => have := HN.out; omega
            case rel =>
              have h9 := HN.out
              have e1 := HRU.out
              have hk3 := k3
              have hk2 := k2
              rw [e1] at hk3 hk2
              refine ⟨_, rs ++ [⟨nm, g2.at_ - nm.length, x⟩], nv4, _, U4, hR10, hRu10, fun _ => hk3, hk2, by simp; omega, by have := hk3.at_; dsimp only at this; dsimp only; omega, hK11, ?_⟩
              have h2 := H1.out
              rw [e1] at h2
              rw [show gk - 1 + 2 = gk + 1 by omega]
              exact h2
        · have q0 : ((rs.length : Int) == 0) = false := beq_eq_false_iff_ne.2 (by omega)
          have h1 := HR.out
          rw [readF, if_neg (fun h => h.2.elim hlt h0)] at h1
          subst h1
          clear HR
          go_wp2
          go_ret
          exact ⟨rfl, nv, _, ⟨U, hR⟩, hRu, hK⟩
    · have h1 := HR.out
      rw [readF, if_neg (by rintro ⟨h, _⟩; exact hbad h)] at h1
      subst h1
      clear HR
      go_wp2
      go_ret
      exact ⟨rfl, nv, _, ⟨U, hR⟩, hRu, hK⟩

end Go.Proofs.Ytagklnaaoclmhaa
