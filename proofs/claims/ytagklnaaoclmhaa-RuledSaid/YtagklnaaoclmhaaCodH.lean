import Derived.Test.YtagklnaaoclmhaaCodG
set_option linter.unusedSimpArgs false
set_option linter.unusedVariables false
namespace Go.Proofs.Ytagklnaaoclmhaa
open Go.RowKit

/-- The code's reader stands at what is wrong. -/
def Fails (w w' : World) (b : Nat) (s : ByteArray) (mv : Value) (x : Int) : Prop := ∃ mv' g', Ris w' b s mv' g' ∧ (g'.at_ : Int) = x ∧ Cs b mv mv' w w'

theorem ba_extract (s : ByteArray) (a c : Nat) (hc : c ≤ s.size) : s.extract a c = ba ((s.data.toList.drop a).take (c - a)) := by
  apply ByteArray.ext
  simp only [ba, ByteArray.data_extract]
  apply Array.toList_inj.1
  simp [Array.toList_extract, List.extract_eq_take_drop]

theorem nx_letter {s : ByteArray} {g : Sc} (hb : g.bad < 0) (ha : g.at_ ≤ s.size) : letterB (nx s g.at_) = letterB (pk s g : Int) := by
  unfold nx pk
  by_cases h : g.at_ = s.size
  · rw [if_pos h, if_neg (by omega)]; decide
  · rw [if_neg h, if_pos ⟨hb, by omega⟩]

theorem info75 : (Try.prog.info? 74).map (fun i => (i.zero, i.size, i.bytes)) = some (some (.agg #[.string ⟨#[]⟩, .int .i64 0, .pointer none]), 3, 32) := by kernel_rfl

theorem take_byte {s : ByteArray} {a k : Nat} (h : a + k < s.size) : (s.data.toList.drop a).take (k + 1) = (s.data.toList.drop a).take k ++ [(byteAt s (a + k)).toUInt8] := by
  have h1 : k < (s.data.toList.drop a).length := by simp; exact Nat.lt_sub_of_add_lt (by rw [Nat.add_comm]; exact h)
  rw [List.take_succ_eq_append_getElem h1]
  congr 2
  rw [List.getElem_drop]
  unfold byteAt
  have h2 : a + k < s.data.toList.length := by simpa using h
  simp only [List.getD, List.getElem?_eq_getElem h2, Option.getD_some]
  simp

/-- What name leaves. -/
structure NameOut (base b : Nat) (s : ByteArray) (mv : Value) (n0 : Nat) (xs : List Value) (g : Sc) (q : Option Addr) (w : World) (L : List UInt8 × Sc) (e : Ending) (w' : World) : Prop where
  res : ∃ t, e = .returned (.tuple #[.string t, .bool (decide (L.2.bad < 0))]) ∧ (L.2.bad < 0 → t = ba L.1)
  ok : L.2.bad < 0 → ∃ mv', Ris w' b s mv' L.2 ∧ w'.ownsRow base 74 3 mv' (n0 + 1) (xs ++ [.string (ba L.1), .int .i64 (g.at_ : Int), .pointer q]) ∧ mv'.ownBlock ≠ some b ∧ Cs b mv mv' w w'
  no : 0 ≤ L.2.bad → Fails w w' b s mv L.2.bad

set_option maxRecDepth 100000 in
set_option maxHeartbeats 1600000 in
theorem name_any (base b : Nat) (s : ByteArray) (mv : Value) (n0 : Nat) (xs : List Value) (g : Sc) (q : Option Addr) (w : World) (hR : Ris w b s mv g) (hO : w.ownsRow base 74 3 mv n0 xs) (hnb : mv.ownBlock ≠ some b) (hbb : base ≤ b) (hs : s.size ≤ 400) (hi : Iv s g) (hb : g.bad < 0) (hn0 : n0 ≤ 5000) :
    Calls Try.prog 36 #[.pointer (some ⟨b, 0, none⟩), .pointer q] w fun e w' => NameOut base b s mv n0 xs g q w (wd s 10 [] g) e w' := by
  obtain ⟨i0, hi0, hz0, hz1, hz2⟩ := info_parts info75
  obtain ⟨L, hL⟩ : ∃ L, wd s 10 [] g = L := ⟨_, rfl⟩
  have HL : Hid (wd s (8 + 2) ((s.data.toList.drop g.at_).take 0) { g with at_ := g.at_ } = L) := hL
  rw [hL]
  clear hL
  have hga := hi.1 hb
  obtain ⟨c0, c1, c2, c3, c4⟩ := hR.cells
  go_enter Try.func36, Try.ntmps36
  go_wp2
  clear c0 c1 c2 c3 c4
  go_loopg [] 8 (fun n wx => ∃ k a6, Hid (k + n = 8) ∧ Hid (a6 = g.at_ + k) ∧ a6 ≤ s.size ∧ Ris wx b s mv { g with at_ := a6 } ∧ Kept (· = b) w wx ∧ Hid (wd s (n + 2) ((s.data.toList.drop g.at_).take k) { g with at_ := a6 } = L))
  case atStart => exact ⟨0, g.at_, rfl, rfl, hga, hR, Kept.refl _ _, HL.out⟩
  case round =>
    obtain ⟨k, a6, hk, ha6, hka, hR6, hK6, HR⟩ := hrel
    obtain ⟨m, hm⟩ : ∃ m, m = gk := ⟨gk, rfl⟩
    subst hm
    have hle : ((s.data.toList.drop g.at_).take k).length = k := by
      rw [List.length_take, List.length_drop]
      have : s.data.toList.length = s.size := Array.length_toList
      have := ha6.out
      omega
    have hnl := nx_letter (s := s) (g := { g with at_ := a6 }) hb hka
    have hpka : letterB (pk s { g with at_ := a6 } : Int) = true → a6 < s.size ∧ pk s { g with at_ := a6 } = byteAt s a6 := by
      intro h
      obtain ⟨p1, p2, p3⟩ := pk_pos (s := s) (g := { g with at_ := a6 }) (letterB_pos h)
      exact ⟨p2, p3⟩
    have h1 := HR.out
    rw [wd, hle] at h1
    go_wp2_with fail
    refine (next_any b s mv _ _ hR6 hs hka).mono ?_
    rintro e w7 ⟨rfl, n7, rfl⟩
    go_wp2_with fail
    refine (isLetter_any _ _).mono ?_
    rintro e w8 ⟨rfl, rfl⟩
    have hR7 := hR6.drewN n7
    have hK7 := hK6.drewN n7
    obtain ⟨c0, c1, c2, c3, c4⟩ := hR7.cells
    obtain ⟨d0, d1, d2, d3, d4⟩ := hR6.cells
    have hf := hR7.frozen 1
    have hf4 := hR7.frozen 5
    dsimp only at *
    rw [hnl]
    clear hnl HR HL
    generalize nx s a6 = xx at *
    cases hlb : letterB (pk s { g with at_ := a6 } : Int)
    · rw [hlb] at h1
      simp only [Bool.false_eq_true, if_false] at h1
      by_cases hk0 : k = 0
      · have hL1 : L = ([], { g with at_ := a6, bad := (a6 : Int) }) := by
          rw [← h1, hk0]; simp [wr_eq (g := { g with at_ := a6 }) hb]
        subst hL1
        have q1 : ((a6 : Int) == (g.at_ : Int)) = true := beq_iff_eq.2 (by have := ha6.out; omega)
        clear h1 hpka
        go_wp2
        go_ret2
        exact ⟨⟨⟨#[]⟩, by simp [show ¬ ((a6 : Int) < 0) by omega], fun h => absurd h (by simp)⟩, fun h => absurd h (by simp), fun _ => ⟨mv, _, hR7, rfl, Cs.only hK7⟩⟩
      · obtain ⟨acc, hacc⟩ : ∃ acc, acc = (s.data.toList.drop g.at_).take k := ⟨_, rfl⟩
        rw [← hacc] at h1 hle
        have hL1 : L = (acc, { g with at_ := a6 }) := by
          rw [← h1, if_neg]
          intro h; rw [h] at hle; simp at hle; omega
        subst hL1
        have q1 : ((a6 : Int) == (g.at_ : Int)) = false := beq_eq_false_iff_ne.2 (by have := ha6.out; omega)
        have hex := ba_extract s g.at_ a6 hka
        rw [show a6 - g.at_ = k by have := ha6.out; omega] at hex
        rw [← hacc] at hex
        clear h1 hpka hacc
        have hle2 : g.at_ ≤ a6 := by have := ha6.out; omega
        go_wp2
        have hO6 := own_kept hO hK6 (fun i hi' h => hnb (by rw [hi', h]))
        have hbw := hR.lt
        have hz6 := hK6.size
        go_quiet (fail)
        go_wp2_with (at_builtin; refine wpList_append_lies _ rfl _ _ _ rfl base 74 i0 _ 3 32 Try.underlying45 hi0 hz0 hz1 hz2 rfl (by omega) mv n0 xs (by rfl) ((show (wr.drewN (n7 + nq)).ownsRow base 74 3 mv n0 xs from hO6).alloc _) ⟨wr.heap.size, 0, none⟩ 1 1 [.string (ba acc), .int .i64 (g.at_ : Int), .pointer q] (by rfl) rfl (World.news_of_block (cs := #[.string (ba acc), .int .i64 (g.at_ : Int), .pointer q]) (t := 74) (fr := (0, 0)) (heap_alloc_new (wr.drewN (n7 + nq)) _)) (by simp [Value.oneCell']) (by omega) (by simp [maxLen]; omega) (by omega) (by simp; omega) (wr.heap.size + 1) (by simp) ?_; intro gg cap w9 hown hgrow hat hlt; have hk9 : Kept (fun k => mv.ownBlock = some k) (wr.drewN (n7 + nq)) w9 := ((Kept.refl _ _).alloc _).grown hgrow (fun k hk _ => hk); have hR9 : Ris w9 b s mv { g with at_ := a6 } := (hR6.drewN (n7 + nq)).kept hk9 hnb; obtain ⟨f0, f1, f2, f3, f4⟩ := hR9.cells; have hf9 := hR9.frozen 5)
        have hne : some b ≠ some gg := by
          rcases hat with h | h
          · rw [← h]; exact fun h' => hnb h'.symm
          · intro h'; have := Option.some.inj h'; omega
        go_ret2
        refine ⟨⟨ba acc, by simp [hb], fun _ => rfl⟩, fun _ => ⟨.slice (some ⟨gg, 0, none⟩) (n0 + 1) cap, hR9.setM _, ?_, fun h => hne h.symm, ?_⟩, fun h => absurd (show 0 ≤ g.bad from h) (by omega)⟩
        · exact own_kept hown (((Kept.refl (· = b) w9).setCell (p := ⟨b, 5, none⟩) (fun _ => rfl) _)) (fun i hi' h => hne (by rw [← h]; exact hi'.symm))
        · refine ⟨((((hK6.drewN (n7 + nq)).mono (fun _ _ h => Or.inl h)).alloc _).grown hgrow (fun k hk _ => Or.inr hk)).setCell (p := ⟨b, 5, none⟩) (fun _ => Or.inl rfl) _, fun i hi' => ?_⟩
          have : gg = i := Option.some.inj hi'
          subst this
          rcases hat with h | h
          · exact .inl h
          · right; omega
    · rw [hlb] at h1
      simp only [if_true] at h1
      obtain ⟨hp1, hp2⟩ := hpka hlb
      by_cases hk8 : k = 8
      · rw [if_pos hk8] at h1
        have hL1 : L = ((s.data.toList.drop g.at_).take k, { g with at_ := a6, bad := (a6 : Int) }) := by
          rw [← h1, wr_eq (g := { g with at_ := a6 }) hb]
        subst hL1
        have q1 : (((a6 : Int) - (g.at_ : Int)) == 8) = true := beq_iff_eq.2 (by have := ha6.out; omega)
        clear h1 hpka
        go_wp2
        go_ret2
        exact ⟨⟨⟨#[]⟩, by simp [show ¬ ((a6 : Int) < 0) by omega], fun h => absurd h (by simp)⟩, fun h => absurd h (by simp), fun _ => ⟨mv, _, hR7, rfl, Cs.only hK7⟩⟩
      · rw [if_neg hk8, hp2] at h1
        have H1 := hide h1
        have q1 : (((a6 : Int) - (g.at_ : Int)) == 8) = false := beq_eq_false_iff_ne.2 (by have := ha6.out; omega)
        have htb := take_byte (s := s) (a := g.at_) (k := k) (by have := ha6.out; omega)
        rw [← ha6.out] at htb
        have HT := hide htb
        have HK := hk
        clear h1 hpka htb
        go_wp2
        go_roundg (m - 1)
        case measure => have := HK.out; omega
        case rel =>
          have := HK.out
          have := ha6.out
          refine ⟨k + 1, a6 + 1, by unfold Hid; omega, by unfold Hid; omega, by omega, hR7.setAt _, hK7.setCell (fun _ => rfl) _, ?_⟩
          rw [HT.out, show m - 1 + 2 = m + 1 by omega]
          exact H1.out
end Go.Proofs.Ytagklnaaoclmhaa
