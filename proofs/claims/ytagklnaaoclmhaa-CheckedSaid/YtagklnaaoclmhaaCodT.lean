import Derived.Test.YtagklnaaoclmhaaCodS
import Derived.Test.YtagklnaaoclmhaaPlnF
set_option linter.unusedSimpArgs false
set_option linter.unusedVariables false
namespace Go.Proofs.Ytagklnaaoclmhaa
open Go.RowKit

/-- The grammar's own blocks, set apart. -/
def Tg (gb : Nat) (rv : Value) (k : Nat) : Prop := k = gb ∨ rv.ownBlock = some k

/-- What grammar leaves. -/
structure GrOut (base b : Nat) (s : ByteArray) (mv : Value) (w : World) (X : St × List Rl) (e : Ending) (w' : World) : Prop where
  ok : X.1.sc.bad < 0 → ∃ mv' P ms gb rv z, e = .returned (.tuple #[.pointer (some ⟨gb, 0, none⟩), .bool true]) ∧ w'.heap[gb]? = some (.cells #[rv, .int .i64 z] 66) ∧ w'.ownsRow base 69 3 rv X.2.length (X.2.flatMap (rlC P)) ∧ CR w' base b s mv' (Tg gb rv) P ms X.1 ∧ MsOk ms X.2 X.1.ns X.1.sc.at_ ∧ Cs b mv mv' w w'
  no : 0 ≤ X.1.sc.bad → e = .returned (.tuple #[.pointer none, .bool false]) ∧ Fails w w' b s mv X.1.sc.bad

theorem info69 : (Try.prog.info? 69).map (fun i => (i.zero, i.size, i.bytes)) = some (some (.agg #[.string ⟨#[]⟩, .int .i64 0, .pointer none]), 3, 32) := by kernel_rfl

/-- A grammar that is being read. -/
structure GrI (base b : Nat) (s : ByteArray) (mv : Value) (w : World) (n : Nat) (wx : World) (rs : List Rl) (A6 : St) (mv6 : Value) (P : List Nat) (ms : List Mn) (rv : Value) : Prop where
  num : n + rs.length = 9
  le : rs.length ≤ 8
  ok : Ok s A6
  op : A6.sc.op = 0
  bad : A6.sc.bad < 0
  more : A6.sc.at_ < s.size ∨ rs.length = 0
  gram : wx.heap[w.heap.size]? = some (.cells #[rv, .int .i64 0] 66)
  own : wx.ownsRow base 69 3 rv rs.length (rs.flatMap (rlC P))
  cr : CR wx base b s mv6 (Tg w.heap.size rv) P ms A6
  is : ∀ r ∈ rs, r.is < P.length
  ms : MsOk ms rs A6.ns A6.sc.at_
  cs : Cs b mv mv6 w wx
  new : ∀ j, rv.ownBlock = some j → w.heap.size < j

theorem rlC_ext {P l : List Nat} {rs : List Rl} (h : ∀ r ∈ rs, r.is < P.length) : rs.flatMap (rlC (P ++ l)) = rs.flatMap (rlC P) := by
  have : ∀ r ∈ rs, rlC (P ++ l) r = rlC P r := by
    intro r hr
    unfold rlC ptrAt
    rw [getD_app_l (h r hr)]
  simp only [List.flatMap_def]
  rw [List.map_congr_left this]

theorem CR.turn {S T' : Nat → Prop} {w w' : World} {base b : Nat} {s : ByteArray} {mv : Value} {T : Nat → Prop} {P : List Nat} {ms : List Mn} {A : St} (h : CR w base b s mv T P ms A) (hk : Kept S w w') (h1 : ¬ S b) (h2 : ∀ j, mv.ownBlock = some j → ¬ S j) (h3 : ∀ j, S j → T j) (h4 : ∀ j, T' j → T j ∨ w.heap.size ≤ j) (h5 : ∀ j, T' j → j < w'.heap.size) : CR w' base b s mv T' P ms A :=
  ⟨h.ris.kept hk h1, own_kept h.own hk (fun i hi e => h2 i hi e), h.nb, h.ar.kept hk (fun j _ x y => x.2.2 (h3 j y)) (fun j hj x => ⟨x.1, x.2.1, fun y => (h4 j y).elim x.2.2 (fun z => by omega)⟩), h5, h.mlt, h.bb, h.t40, h.mlen⟩
theorem Cs.newS {S : Nat → Prop} {b : Nat} {mv mv' : Value} {w w1 w2 : World} (h : Cs b mv mv' w w1) (hk : Kept S w1 w2) (hn : ∀ j, S j → w.heap.size ≤ j) : Cs b mv mv' w w2 :=
  ⟨⟨hk.os.trans h.kept.os, hk.tape.trans h.kept.tape, hk.output.trans h.kept.output, Nat.le_trans h.kept.size hk.size, fun i hi hs => by
    rw [hk.block i (Nat.lt_of_lt_of_le hi h.kept.size) (fun x => by have := hn i x; omega)]; exact h.kept.block i hi hs⟩, h.own⟩
theorem readF_stop {s : ByteArray} {B : St} {rs : List Rl} (h : ¬ (B.sc.bad < 0 ∧ (B.sc.at_ < s.size ∨ rs.length = 0))) : ∀ f, readF s f B rs = (B, rs)
  | 0 => rfl
  | f + 1 => by rw [readF, if_neg h]

set_option maxRecDepth 100000 in
set_option maxHeartbeats 3200000 in
theorem grammar_code (s : ByteArray) (base b : Nat) (mv : Value) (w : World) (hs : s.size ≤ 400) (hC : CR w base b s mv (fun _ => False) [] [] ⟨⟨0, -1, 0, 0⟩, []⟩) :
    Calls Try.prog 13 #[.pointer (some ⟨b, 0, none⟩)] w fun e w' => GrOut base b s mv w (read s) e w' := by
  obtain ⟨i0, hi0, hz0, hz1, hz2⟩ := info_parts info69
  obtain ⟨L, hL⟩ : ∃ L, read s = L := ⟨_, rfl⟩
  have HL : Hid (readF s (9 + 1) ⟨⟨0, -1, 0, 0⟩, []⟩ [] = L) := hL
  rw [hL]
  clear hL
  have hbw := hC.lt
  have hbase := hC.bb
  go_enter Try.func13, Try.ntmps13
  go_wp2
  go_loopg [] 9 (fun n wx => ∃ rs A6 mv6 P ms rv, GrI base b s mv w n wx rs A6 mv6 P ms rv ∧ Hid (readF s (n + 1) A6 rs = L))
  case atStart =>
    refine ⟨[], ⟨⟨0, -1, 0, 0⟩, []⟩, mv, [], [], .slice none 0 0, ⟨rfl, by simp, ⟨⟨fun _ => Nat.zero_le _, Nat.zero_le _⟩, by simp, by simp [Pt, rest]; omega, by simp, hs⟩, rfl, by decide, .inr rfl, heap_alloc_new _ _, World.ownsRow_nil _ _ _ _, ?_, by simp, MsOk.nil, Cs.only ((Kept.refl (· = b) w).alloc _), by simp [Value.ownBlock]⟩, HL.out⟩
    exact (hC.room _).apart (fun k hk => by
      rcases hk with h | h
      · exact .inr h
      · exact absurd h (by simp [Value.ownBlock]))
  case round =>
    obtain ⟨rs, A6, mv6, P, ms, rv, hI, HR⟩ := hrel
    obtain ⟨m, hm⟩ : ∃ m, m = gk := ⟨gk, rfl⟩
    subst hm
    have hg := hI.gram
    obtain ⟨g0, g1, gf0, gf1⟩ := cells2 hg
    obtain ⟨rp, rc, hrv⟩ := ownsRow_form hI.own
    have h1 := HR.out
    rw [readF, if_pos ⟨hI.bad, hI.more⟩] at h1
    have hl9 := hI.le
    by_cases h8 : rs.length = 8
    · rw [if_pos h8] at h1
      subst hrv
      have q8 : ((rs.length : Int) == 8) = true := by simp [h8]
      have HB : Hid (L.1.sc.bad = A6.sc.at_) := by
        unfold Hid; rw [← h1]; show (Go.Proofs.Ytagklnaaoclmhaa.wr A6.sc).bad = _; rw [wr_eq hI.bad]
      clear h1 HR HL
      go_wp2
      go_ret2
      exact ⟨fun h => absurd h (by rw [HB.out]; omega), fun _ => ⟨rfl, mv6, A6.sc, hI.cr.ris, by rw [HB.out], hI.cs⟩⟩
    · rw [if_neg h8] at h1
      have q8 : ((rs.length : Int) == 8) = false := by simp; omega
      have hrule := rule_code s base b mv6 (Tg w.heap.size rv) P ms A6 wr hI.cr hI.ok hI.op hI.bad (by have := hI.ms.len; omega)
      have hrok := rule_ok hI.ok hI.op hI.bad
      have hro := rule_ord hI.ok hI.op hI.bad
      have H1 := hide h1
      clear h1 HR HL
      generalize ruleM s A6 = X at *
      obtain ⟨B, r⟩ := X
      dsimp only at *
      subst hrv
      go_wp2_with fail
      refine hrule.mono ?_
      intro e w7 hOut
      by_cases hbB : B.sc.bad < 0
      · obtain ⟨mv7, P2, l, rfl, hns, hC7, hS7, hx⟩ := hOut.ok hbB
        dsimp only [rlC] at *
        obtain ⟨cb, hcb⟩ : ∃ c, objAt wr b = some (.cells c 47 (0, 0)) := by
          obtain ⟨z, hz⟩ := hI.cr.ris
          exact ⟨_, hz⟩
        have hmg : mv6.ownBlock ≠ some w.heap.size := fun h => by
          obtain ⟨c, hc⟩ := ownsRow_obj hI.cr.own h
          rw [show objAt wr w.heap.size = _ from hg] at hc
          simp at hc
        have hrb : ∀ j, (Value.slice rp rs.length rc).ownBlock = some j → j ≠ b ∧ mv6.ownBlock ≠ some j := fun j hj => by
          obtain ⟨c, hc⟩ := ownsRow_obj hI.own hj
          refine ⟨fun e => ?_, fun h => ?_⟩
          · subst e; rw [hcb] at hc; simp at hc
          · obtain ⟨c2, hc2⟩ := ownsRow_obj hI.cr.own h
            rw [hc] at hc2
            simp at hc2
        have hg7 : w7.heap[w.heap.size]? = some (.cells #[.slice rp rs.length rc, .int .i64 0] 66) := by
          rw [hS7.kept.block _ (objAt_lt (show objAt wr _ = _ from hg)) (fun h => by
            rcases h with h | h
            · omega
            · exact hmg h)]
          exact hg
        have hown7 : w7.ownsRow base 69 3 (.slice rp rs.length rc) rs.length (rs.flatMap (rlC P)) := own_kept hI.own hS7.kept (fun i hi h => by
          rcases h with h | h
          · exact (hrb i hi).1 h
          · exact (hrb i hi).2 h)
        obtain ⟨m0, m1, mf0, mf1⟩ := cells2 hg7
        have hgl7 := objAt_lt (show objAt w7 _ = _ from hg7)
        obtain ⟨pq, hpq⟩ : ∃ pq, pq = (P ++ P2).getD r.is 0 := ⟨_, rfl⟩
        unfold ptrAt
        rw [← hpq]
        have HQ := hide hpq
        clear hpq hOut hrule hg g0 g1 gf0 gf1
        obtain ⟨hro1, l', hro2, hro3, hro4, hro5⟩ := hro hbB
        have hll : l = l' := List.append_cancel_left (hns.symm.trans hro2)
        subst hll
        have hms9 := hI.ms.rule hro1 hro3 hro4 hro5
        rw [← hns] at hms9
        have hnews : ((w7.alloc (.cells #[.string (ba r.name), .int .i64 (r.at_ : Int), .pointer (some ⟨pq, 0, none⟩)] 69)).drew.alloc (.cells #[.string (ba r.name), .int .i64 (r.at_ : Int), .pointer (some ⟨pq, 0, none⟩)] 69)).heap[w7.heap.size + 1]? = some (.cells #[.string (ba r.name), .int .i64 (r.at_ : Int), .pointer (some ⟨pq, 0, none⟩)] 69 (0, 0)) := by
          have := heap_alloc_new (w7.alloc (.cells #[.string (ba r.name), .int .i64 (r.at_ : Int), .pointer (some ⟨pq, 0, none⟩)] 69)).drew (.cells #[.string (ba r.name), .int .i64 (r.at_ : Int), .pointer (some ⟨pq, 0, none⟩)] 69)
          simpa using this
        have hgw : w.heap.size ≠ w7.heap.size := by omega
        have hb7 := hC7.lt
        have hnewr := hI.new
        have hbase7 : base ≤ w7.heap.size := by have := hC7.bb; omega
        go_wp2
        go_region_law
          ((refine step_append_lies _ (by rfl) _ _ _ (by rfl) base 69 i0 _ 3 32 Try.underlying64 hi0 hz0 hz1 hz2 (by rfl) (by omega) (.slice rp rs.length rc) rs.length (rs.flatMap (rlC P)) (by rfl) (((hown7.alloc _).alloc _).drew)
              ⟨w7.heap.size + 1, 0, none⟩ 1 1 [.string (ba r.name), .int .i64 (r.at_ : Int), .pointer (some ⟨pq, 0, none⟩)] (by rfl) (by simp) (World.news_of_block (t := 69) (fr := (0, 0)) hnews) (by simp [Value.oneCell'])
              (by omega) (by simp [maxLen]; omega) (by omega) (by simp; omega) (w7.heap.size + 2) (by simp) ?_; intro gg cap w9 hown9 hgrow hat hlt
            have hK9 : Kept (fun k => (Value.slice rp rs.length rc).ownBlock = some k) w7 w9 := ((((Kept.refl _ w7).alloc _).drew).alloc _).grown hgrow (fun k h _ => h)
            have hg9 : w9.heap[w.heap.size]? = some (.cells #[.slice rp rs.length rc, .int .i64 0] 66) := by rw [hK9.block _ hgl7 (fun h => by have := hnewr _ h; omega)]; exact hg7
            obtain ⟨n0, n1, nf0, nf1⟩ := cells2 hg9))
        all_goals
          obtain ⟨w10, hw10⟩ : ∃ w10, w10 = w9.setCell ⟨w.heap.size, 0, none⟩ (Value.slice (some ⟨gg, 0, none⟩) (rs.length + 1) cap) := ⟨_, rfl⟩
          have hgg : gg ≠ w.heap.size := by
            rcases hat with h | h
            · have := hnewr _ h; omega
            · omega
          have hggn : w.heap.size < gg := by
            rcases hat with h | h
            · exact hnewr _ h
            · omega
          have hgl : gg < w9.heap.size := (hown9.lt gg rfl).2
          have hz9 := hK9.size
          have hKS : Kept (· = w.heap.size) w9 w10 := by rw [hw10]; exact (Kept.refl (· = w.heap.size) w9).setCell (fun _ => rfl) _
          have hz10 := hKS.size
          have hmv7 : ∀ j, mv7.ownBlock = some j → j ≠ w.heap.size ∧ (Value.slice rp rs.length rc).ownBlock ≠ some j := fun j hj => by
            obtain ⟨c, hc⟩ := ownsRow_obj hC7.own hj
            refine ⟨fun e => ?_, fun h => ?_⟩
            · subst e; rw [show objAt w7 _ = _ from hg7] at hc; simp at hc
            · obtain ⟨c2, hc2⟩ := ownsRow_obj hown7 h
              rw [hc] at hc2; simp at hc2
          have hC9 : CR w9 base b s mv7 (Tg w.heap.size (.slice (some ⟨gg, 0, none⟩) (rs.length + 1) cap)) (P ++ P2) _ B := hC7.turn hK9 (fun h => (hrb b h).1 rfl) (fun j hj h => (hmv7 j hj).2 h) (fun j h => .inr h) (fun j h => by
            rcases h with h | h
            · exact .inl (.inl h)
            · have : gg = j := Option.some.inj h
              subst this
              rcases hat with h | h
              · exact .inl (.inr h)
              · exact .inr (by omega)) (fun j h => by
            rcases h with h | h
            · omega
            · have : gg = j := Option.some.inj h
              omega)
          have hC10 := hC9.off hKS (by omega) (fun j hj h => (hmv7 j hj).1 h) (fun j h => .inl h)
          have hg10 : w10.heap[w.heap.size]? = some (.cells #[.slice (some ⟨gg, 0, none⟩) (rs.length + 1) cap, .int .i64 0] 66) := by
            rw [hw10, heap_set_at hg9]; rfl
          have hPl : (P ++ P2).length = B.ns.length := hC7.ar.len
          have hPA : P.length = A6.ns.length := hI.cr.ar.len
          have hown10 : w10.ownsRow base 69 3 (.slice (some ⟨gg, 0, none⟩) (rs.length + 1) cap) (rs ++ [r]).length ((rs ++ [r]).flatMap (rlC (P ++ P2))) := by
            rw [List.flatMap_append, rlC_ext hI.is, List.length_append]
            have hx1 : [r].flatMap (rlC (P ++ P2)) = [.string (ba r.name), .int .i64 (r.at_ : Int), .pointer (some ⟨pq, 0, none⟩)] := by
              rw [HQ.out]; simp [rlC, ptrAt]
            rw [hx1, hw10]
            exact ownsRow_setCell_other hown9 (a := ⟨w.heap.size, 0, none⟩) (fun h => hgg (Option.some.inj h)) _
          have hS10 : Cs b mv mv7 w w10 := ((hI.cs.trans hS7).newS hK9 (fun j h => by have := hnewr j h; omega)).newS hKS (fun j h => by omega)
          have hnew10 : ∀ j, (Value.slice (some ⟨gg, 0, none⟩) (rs.length + 1) cap).ownBlock = some j → w.heap.size < j := fun j h => by
            have : gg = j := Option.some.inj h
            omega
          have his10 : ∀ x ∈ rs ++ [r], x.is < (P ++ P2).length := fun x hx' => by
            rcases List.mem_append.1 hx' with h | h
            · have := hI.is x h; simp; omega
            · rw [List.mem_singleton.1 h, hPl]; exact hx
          have hO10 := hrok.2.2.1
          have hop10 := hrok.2.1
          have hnum := hI.num
          rw [← hw10]
          clear hown9 hgrow hK9 hg9 n0 n1 nf0 nf1 hC9 hKS hw10 hC7 hown7 hg7 m0 m1 mf0 mf1 hS7 hI hnews HQ
          generalize hrv10 : Value.slice (some ⟨gg, 0, none⟩) (rs.length + 1) cap = rv10 at *
          clear hrv10
          have hga : B.sc.at_ ≤ s.size := hO10.iv.1 hbB
          go_wp2_with fail
          refine (next_any b s mv7 B.sc _ hC10.ris hs hga).mono ?_
          rintro e w11 ⟨rfl, n11, rfl⟩
          have hKd : Kept (fun _ => False) w10 (w10.drewN n11) := (Kept.refl _ _).drewN _
          have hC11 := hC10.off hKd (fun h => h) (fun _ _ h => h) (fun _ h => h.elim)
          have hS11 : Cs b mv mv7 w (w10.drewN n11) := hS10.newS hKd (fun _ h => h.elim)
          have hg11 : (w10.drewN n11).heap[w.heap.size]? = some (.cells #[rv10, .int .i64 0] 66) := hg10
          have hown11 : (w10.drewN n11).ownsRow base 69 3 rv10 (rs ++ [r]).length ((rs ++ [r]).flatMap (rlC (P ++ P2))) := hown10
          obtain ⟨zz, hzz⟩ := hC11.ris.brk
          obtain ⟨k0, k1, kf0, kf1⟩ := cells2 hg11
          have hnb1 : w.heap.size ≠ b := by omega
          have hnb2 : b ≠ w.heap.size := by omega
          have hrv11 : rv10.ownBlock ≠ some w.heap.size := fun h => by have := hnew10 _ h; omega
          have hmv11 : ∀ j, mv7.ownBlock = some j → j ≠ w.heap.size := fun j hj => (hmv7 j hj).1
          clear hC10 hS10 hg10 hown10 hKd hmv7
          generalize hw11 : w10.drewN n11 = w11 at *
          clear hw11
          by_cases hend : B.sc.at_ = s.size
          · have hn1 : nx s B.sc.at_ = -1 := by unfold nx; rw [if_pos hend]
            rw [hn1]
            have HE : Hid (L = (B, rs ++ [r])) := by
              unfold Hid; rw [← H1.out]
              exact readF_stop (fun h => by
                rcases h.2 with h | h
                · omega
                · simp at h) _
            clear H1 hn1
            have hKE : Kept (· = w.heap.size) w11 (w11.setCell ⟨w.heap.size, 1, none⟩ (.int .i64 zz)) := (Kept.refl (· = w.heap.size) w11).setCell (p := ⟨w.heap.size, 1, none⟩) (fun _ => rfl) _
            go_wp2
            go_ret2
            rw [HE.out]
            refine ⟨fun _ => ⟨mv7, P ++ P2, _, w.heap.size, rv10, zz, rfl, by rw [heap_set_at hg11]; rfl, ownsRow_setCell_other hown11 hrv11 _, hC11.off hKE (by omega) (fun j hj h => hmv11 j hj h) (fun j h => .inl h), hms9, hS11.newS hKE (fun j h => by omega)⟩, fun h => absurd (show 0 ≤ B.sc.bad from h) (by omega)⟩
          · have hlt2 : B.sc.at_ < s.size := by omega
            have q1 : (nx s B.sc.at_ == (-1 : Int)) = false := by
              unfold nx; rw [if_neg hend]; exact beq_eq_false_iff_ne.2 (by omega)
            have H2 : Hid (readF s (m - 1 + 1) B (rs ++ [r]) = L) := by
              unfold Hid; rw [show m - 1 + 1 = m by omega]; exact H1.out
            have HM : Hid (m + rs.length = 9) := hnum
            clear H1 hnum
            generalize nx s B.sc.at_ = xx at *
            go_wp2
            go_roundg (m - 1)
            case measure => have := HM.out; omega
            case rel =>
              have := HM.out
              exact ⟨rs ++ [r], B, mv7, P ++ P2, _, rv10, ⟨by simp; omega, by simp; omega, hO10, hop10, hbB, .inl hlt2, hg11, hown11, hC11, his10, hms9, hS11, hnew10⟩, H2.out⟩
      · obtain ⟨c0, c1, c2, rfl, mv', g', hR7, hat, hS7⟩ := hOut.no (show 0 ≤ B.sc.bad by omega)
        have HE : Hid (L = (B, rs ++ [r])) := by
          unfold Hid; rw [← H1.out]
          exact readF_stop (fun h => hbB h.1) _
        have hS8 := hI.cs.trans hS7
        have hat' : (g'.at_ : Int) = B.sc.bad := hat
        clear H1 hOut hrule hro hrok hat
        go_wp2
        go_ret2
        rw [HE.out]
        exact ⟨fun h => absurd (show B.sc.bad < 0 from h) (by omega), fun _ => ⟨rfl, mv', g', hR7.alloc _, hat', hS8.trans (Cs.only ((Kept.refl (· = b) w7).alloc _))⟩⟩
end Go.Proofs.Ytagklnaaoclmhaa
