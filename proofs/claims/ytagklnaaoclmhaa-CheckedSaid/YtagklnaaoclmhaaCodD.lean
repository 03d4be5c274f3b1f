import Derived.Test.YtagklnaaoclmhaaCodC
import Derived.Laws.IdiomStrings
set_option linter.unusedSimpArgs false
set_option linter.unusedVariables false
namespace Go.Proofs.Ytagklnaaoclmhaa
open Go.RowKit
theorem pk_nx {s : ByteArray} {g : Sc} (hb : g.bad < 0) (ha : g.at_ ≤ s.size) {c : Nat} (hc : 0 < c) : tkB s g c = decide (pk s g = c) := by
  unfold tkB nx pk
  by_cases h : g.at_ = s.size
  · rw [if_pos h, if_neg (by omega)]
    rw [Bool.eq_iff_iff]; simp; omega
  · rw [if_neg h, if_pos ⟨hb, by omega⟩]
    rw [Bool.eq_iff_iff]; simp; omega


theorem byteFrom_c0 (b : Nat) (s : ByteArray) (mv : Value) (g : Sc) (w : World) (hR : Ris w b s mv g) (hs : s.size ≤ 400) (ha : g.at_ ≤ s.size) (hb : g.bad < 0) :
    Calls Try.prog 71 #[.pointer (some ⟨b, 0, none⟩), .int .u8 0, .string ⟨#[10, 93, 45]⟩] w fun e w' => e = .returned (.tuple #[.int .u8 ((inner s g barC 0).1 : Int), .bool (decide ((inner s g barC 0).2.bad < 0))]) ∧ Ris w' b s mv (inner s g barC 0).2 ∧ Kept (· = b) w w' :=
  byteFrom_any b s ⟨#[10, 93, 45]⟩ mv g 0 w hR hs ha hb (by decide) (by decide)
theorem byteFrom_c (b : Nat) (s : ByteArray) (mv : Value) (g : Sc) (least : Nat) (w : World) (hR : Ris w b s mv g) (hs : s.size ≤ 400) (ha : g.at_ ≤ s.size) (hb : g.bad < 0) (hl : least < 256) :
    Calls Try.prog 71 #[.pointer (some ⟨b, 0, none⟩), .int .u8 (least : Int), .string ⟨#[10, 93, 45]⟩] w fun e w' => e = .returned (.tuple #[.int .u8 ((inner s g barC least).1 : Int), .bool (decide ((inner s g barC least).2.bad < 0))]) ∧ Ris w' b s mv (inner s g barC least).2 ∧ Kept (· = b) w w' :=
  byteFrom_any b s ⟨#[10, 93, 45]⟩ mv g least w hR hs ha hb hl (by decide)
theorem byteFrom_l0 (b : Nat) (s : ByteArray) (mv : Value) (g : Sc) (w : World) (hR : Ris w b s mv g) (hs : s.size ≤ 400) (ha : g.at_ ≤ s.size) (hb : g.bad < 0) :
    Calls Try.prog 71 #[.pointer (some ⟨b, 0, none⟩), .int .u8 0, .string ⟨#[10, 39]⟩] w fun e w' => e = .returned (.tuple #[.int .u8 ((inner s g barL 0).1 : Int), .bool (decide ((inner s g barL 0).2.bad < 0))]) ∧ Ris w' b s mv (inner s g barL 0).2 ∧ Kept (· = b) w w' :=
  byteFrom_any b s ⟨#[10, 39]⟩ mv g 0 w hR hs ha hb (by decide) (by decide)

theorem Ris.setO {w : World} {b : Nat} {s : ByteArray} {mv : Value} {g : Sc} (h : Ris w b s mv g) {k : Nat} (hk : b ≠ k) (o : Nat) (u : Value) : Ris (w.setCell ⟨k, o, none⟩ u) b s mv g := by
  unfold Ris at *
  rw [Below.heap_setCell _ _ _ _ hk]; exact h

theorem cells2 {w : World} {k t : Nat} {u v : Value} (h : w.heap[k]? = some (.cells #[u, v] t)) : w.cell? ⟨k, 0, none⟩ = some u ∧ w.cell? ⟨k, 1, none⟩ = some v ∧ w.frozen? ⟨k, 0, none⟩ = false ∧ w.frozen? ⟨k, 1, none⟩ = false := by
  refine ⟨?_, ?_, ?_, ?_⟩ <;> simp [World.cell?, World.frozen?, h]

set_option maxHeartbeats 800000 in
theorem oneRange_any (b : Nat) (s : ByteArray) (mv : Value) (g : Sc) (w : World) (hR : Ris w b s mv g) (hs : s.size ≤ 400) (hi : Iv s g) (hb : g.bad < 0) :
    Calls Try.prog 72 #[.pointer (some ⟨b, 0, none⟩)] w fun e w' => e = .returned (.tuple #[.agg #[.int .u8 ((setR s g).1.1 : Int), .int .u8 ((setR s g).1.2 : Int)], .bool (decide ((setR s g).2.bad < 0))]) ∧ Ris w' b s mv (setR s g).2 ∧ Kept (· = b) w w' := by
  obtain ⟨i1, i2, i3, i4, i5, i6⟩ := inner_facts hi barC 0
  have hbl := hR.lt
  go_enter Try.func72, Try.ntmps72
  go_wp2_with fail
  refine (byteFrom_c0 b s mv g _ (hR.alloc _) hs (hi.1 hb) hb).mono ?_
  rintro e w1 ⟨rfl, hR1, hK1⟩
  have hc : w1.heap[w.heap.size]? = some (.cells #[.int .u8 0, .int .u8 0] 118) := by
    rw [hK1.block _ (by simp) (by omega)]; exact heap_alloc_new _ _
  have hz := hK1.size
  have HK : Hid (Kept (· = b) w w1) := ((Kept.refl _ _).alloc _).trans hK1
  obtain ⟨k0, k1, l0, l1⟩ := cells2 hc
  cases hq : decide ((inner s g barC 0).2.bad < 0)
  · have HS : Hid (setR s g = (((inner s g barC 0).1, (inner s g barC 0).1), (inner s g barC 0).2)) := by
      have hq' : ¬ (inner s g barC 0).2.bad < 0 := by simpa using hq
      unfold Hid setR
      rw [if_neg]
      unfold pk
      rw [if_neg (fun h => hq' h.1)]; decide
    go_wp2
    refine bodyPost_ret (v := .tuple #[.agg #[.int .u8 ((inner s g barC 0).1 : Int), .int .u8 ((inner s g barC 0).1 : Int)], .bool false]) (by simp [results, Try.results72, go_sem, k0, k1]) rfl ⟨?_, ?_, ?_⟩
    · rw [HS.out, hq]
    · rw [HS.out]
      exact (hR1.setO (by omega) _ _).setO (by omega) _ _
    · exact (HK.out.setCell (fun h => absurd h (Nat.lt_irrefl _)) _).setCell (fun h => absurd h (Nat.lt_irrefl _)) _
  · have hq1 : (inner s g barC 0).2.bad < 0 := by simpa using hq
    have hpk := pk_nx (s := s) hq1 (i1.1 hq1) (c := 45) (by decide)
    go_wp2_with fail
    refine (take_any b s mv _ 45 _ hR1 hs (i1.1 hq1) (by decide)).mono ?_
    rintro e w2 ⟨rfl, hR2, hK2⟩
    have hc2 : w2.heap[w.heap.size]? = some (.cells #[.int .u8 0, .int .u8 0] 118) := by
      rw [hK2.block _ (by simp at hz; omega) (by omega)]; exact hc
    have HK2 := hide (HK.out.trans hK2)
    obtain ⟨m0, m1, n0, n1⟩ := cells2 hc2
    cases ht : tkB s (inner s g barC 0).2 45
    · have HS : Hid (setR s g = (((inner s g barC 0).1, (inner s g barC 0).1), (inner s g barC 0).2)) := by
        unfold Hid setR
        rw [if_neg]
        rw [ht] at hpk
        simpa using hpk.symm
      have hR2' : Ris w2 b s mv (inner s g barC 0).2 := by unfold tk at hR2; rw [ht] at hR2; exact hR2
      clear hpk hR2
      go_wp2
      refine bodyPost_ret (v := .tuple #[.agg #[.int .u8 ((inner s g barC 0).1 : Int), .int .u8 ((inner s g barC 0).1 : Int)], .bool true]) (by simp [results, Try.results72, go_sem, m0, m1]) rfl ⟨?_, ?_, ?_⟩
      · rw [HS.out, hq]
      · rw [HS.out]
        exact (hR2'.setO (by omega) _ _).setO (by omega) _ _
      · exact (HK2.out.setCell (fun h => absurd h (Nat.lt_irrefl _)) _).setCell (fun h => absurd h (Nat.lt_irrefl _)) _
    · have HS : Hid (setR s g = (((inner s g barC 0).1, (inner s (adv (inner s g barC 0).2) barC (inner s g barC 0).1).1), (inner s (adv (inner s g barC 0).2) barC (inner s g barC 0).1).2)) := by
        unfold Hid setR
        rw [if_pos]
        rw [ht] at hpk
        simpa using hpk.symm
      have hR2' : Ris w2 b s mv (adv (inner s g barC 0).2) := by unfold tk at hR2; rw [ht] at hR2; exact hR2
      have hp := nx_pos (s := s) (a := (inner s g barC 0).2.at_) (c := 45) (by unfold tkB at ht; simpa using ht) (i1.1 hq1)
      have j3 := (inner_facts (i1.adv hp.1) barC (inner s g barC 0).1).2.2.1
      clear hpk hR2
      go_wp2_with fail
      refine (byteFrom_c b s mv (adv (inner s g barC 0).2) (inner s g barC 0).1 _ hR2' hs (by rw [adv_at]; omega) hq1 i3).mono ?_
      rintro e w3 ⟨rfl, hR3, hK3⟩
      have hz2 := hK2.size
      have hc3 : w3.heap[w.heap.size]? = some (.cells #[.int .u8 0, .int .u8 0] 118) := by
        rw [hK3.block _ (by simp at hz; omega) (by omega)]; exact hc2
      have HK3 := hide (HK2.out.trans hK3)
      obtain ⟨o0, o1, p0, p1⟩ := cells2 hc3
      go_wp2
      refine bodyPost_ret (v := .tuple #[.agg #[.int .u8 ((inner s g barC 0).1 : Int), .int .u8 ((inner s (adv (inner s g barC 0).2) barC (inner s g barC 0).1).1 : Int)], .bool (decide ((inner s (adv (inner s g barC 0).2) barC (inner s g barC 0).1).2.bad < 0))]) (by simp [results, Try.results72, go_sem, o0, o1]) rfl ⟨?_, ?_, ?_⟩
      · rw [HS.out]
      · rw [HS.out]
        exact (hR3.setO (by omega) _ _).setO (by omega) _ _
      · exact (HK3.out.setCell (fun h => absurd h (Nat.lt_irrefl _)) _).setCell (fun h => absurd h (Nat.lt_irrefl _)) _
end Go.Proofs.Ytagklnaaoclmhaa

namespace Go.Proofs.Ytagklnaaoclmhaa
open Go.RowKit

/-- Where the reader stands behind a piece: at its end, or at what is wrong. -/
structure Ends (w : World) (b : Nat) (s : ByteArray) (mv : Value) (g : Sc) : Prop where
  good : g.bad < 0 → Ris w b s mv g
  bad : 0 ≤ g.bad → ∃ g', Ris w b s mv g' ∧ (g'.at_ : Int) = g.bad

theorem wr_place (g : Sc) (hb : g.bad < 0) : ((wr g).at_ : Int) = (wr g).bad := by rw [wr_eq hb]
theorem inner2_place {s : ByteArray} {g : Sc} (hb : g.bad < 0) (least : Nat) (h : 0 ≤ (inner2 s g least).2.bad) : ((inner2 s g least).2.at_ : Int) = (inner2 s g least).2.bad := by
  revert h
  unfold inner2
  generalize (if byteAt s g.at_ = 110 then 10 else byteAt s g.at_) = v
  split
  · intro _; exact wr_place g hb
  · split
    · intro _; exact wr_place g hb
    · split
      · intro _; exact wr_place g hb
      · intro h; exact absurd h (by simp [adv]; omega)
theorem inner_place {s : ByteArray} {g : Sc} (hb : g.bad < 0) (l : List UInt8) (least : Nat) (h : 0 ≤ (inner s g l least).2.bad) : ((inner s g l least).2.at_ : Int) = (inner s g l least).2.bad := by
  revert h
  unfold inner
  split
  · intro _; exact wr_place g hb
  · split
    · split
      · intro _; exact wr_place g hb
      · split
        · intro _; exact wr_place g hb
        · intro h; exact absurd h (by simp [adv]; omega)
    · split
      · intro _; exact wr_place g hb
      · intro h; exact inner2_place (g := adv g) hb least h

theorem litF_bad {s : ByteArray} {n : Nat} {acc : List UInt8} {g : Sc} (h : 0 ≤ g.bad) : litF s n acc g = (acc, g) := by
  cases n with
  | zero => rfl
  | succ n => rw [litF, if_neg (by omega)]

def u8V (b : UInt8) : Value := .int .u8 (b.toNat : Int)
theorem info5 : (Try.prog.info? 5).map (fun i => (i.zero, i.size, i.bytes)) = some (some (.int .u8 0), 1, 1) := by kernel_rfl

/-- A list of bytes of one's own, made a text. -/
theorem convert_own {w : World} {base : Nat} {v : Value} {l : List UInt8} (h : w.ownsRow base 5 1 v l.length (l.map u8V)) :
    (convert 88 9 v).run Try.prog w = .ok (.string (ba l)) w := by
  rcases h.2 with ⟨rfl, h0⟩ | ⟨g, cap, cur, rfl, _, hg, _, _, _, htake⟩
  · have : l = [] := List.length_eq_zero_iff.1 h0
    subst this
    rw [run_convert_bytes_string w 88 9 5 _ 0 0 Try.underlying88 Try.underlying5 Try.underlying9]
    rfl
  · refine run_convert_bytes_back (P := Try.prog) w 88 9 5 ⟨g, 0, none⟩ cap l Try.underlying88 Try.underlying5 Try.underlying9 (fun j hj => ?_)
    exact h.cells rfl j _ (by rw [List.getElem?_map, List.getElem?_eq_getElem hj]; rfl)

theorem own_kept {w w' : World} {S : Nat → Prop} {base e size n : Nat} {v : Value} {xs : List Value} (h : w.ownsRow base e size v n xs) (k : Kept S w w') (hn : ∀ i, v.ownBlock = some i → ¬ S i) : w'.ownsRow base e size v n xs := by
  refine ⟨h.1, ?_⟩
  rcases h.2 with hv | ⟨g, cap, cur, rfl, hb, hgg, rest⟩
  · exact .inl hv
  · refine .inr ⟨g, cap, cur, rfl, hb, ?_, rest⟩
    rw [k.block g (Array.getElem?_eq_some_iff.1 hgg).1 (hn g rfl)]
    exact hgg

set_option maxHeartbeats 800000 in
theorem literal_any (b : Nat) (s : ByteArray) (mv : Value) (g : Sc) (w : World) (hR : Ris w b s mv g) (hs : s.size ≤ 400) (hi : Iv s g) (hb : g.bad < 0) :
    Calls Try.prog 68 #[.pointer (some ⟨b, 0, none⟩)] w fun e w' => (∃ t, e = .returned (.tuple #[.string t, .bool (decide ((lit s g).2.bad < 0))]) ∧ ((lit s g).2.bad < 0 → t = ba (lit s g).1)) ∧ Ends w' b s mv (lit s g).2 ∧ Kept (· = b) w w' := by
  obtain ⟨i0, hi0, hz0, hz1, hz2⟩ := info_parts info5
  have hbw := hR.lt
  obtain ⟨L, hL⟩ : ∃ L, litF s (s.size + 2) [] g = L := ⟨_, rfl⟩
  have HP : Hid (lit s g = (L.1, adv L.2)) := by unfold Hid lit; rw [hL]
  have HL : Hid (litF s (s.size + 1 + 1) [] g = L) := hL
  clear hL
  go_enter Try.func68, Try.ntmps68
  go_wp2
  go_loopg [4] (s.size + 1) (fun n v wx => ∃ acc g6, rk s g6 ≤ n ∧ Iv s g6 ∧ g6.bad < 0 ∧ acc.length + rk s g6 ≤ 401 ∧ Ris wx b s mv g6 ∧ wx.ownsRow w.heap.size 5 1 v acc.length (acc.map u8V) ∧ Kept (· = b) w wx ∧ Hid (litF s (n + 1) acc g6 = L))
  case atStart => exact ⟨[], g, rk_le _ _, hi, hb, by have := rk_le s g; simp; omega, hR, World.ownsRow_nil _ _ _ _, Kept.refl _ _, HL.out⟩
  case round =>
    obtain ⟨acc, g6, hrk, hI6, hb6, hal, hR6, hO6, hK6, HR⟩ := hrel
    obtain ⟨m, hm⟩ : ∃ m, m = gk := ⟨gk, rfl⟩
    subst hm
    have ht := pk_nx (s := s) hb6 (hI6.1 hb6) (c := 39) (by decide)
    go_wp2_with fail
    refine (take_any b s mv g6 39 _ hR6 hs (hI6.1 hb6) (by decide)).mono ?_
    rintro e w7 ⟨rfl, hR7, hK7⟩
    have hO7 := own_kept hO6 hK7 (fun i hi' => by have := (hO6.lt i hi').1; omega)
    have hK7' := hK6.trans hK7
    cases hq : tkB s g6 39
    · have hpk : pk s g6 ≠ 39 := by rw [hq] at ht; simpa using ht.symm
      have h1 := HR.out
      rw [litF, if_pos ⟨hb6, hpk⟩] at h1
      have H1 := hide h1
      have hR7' : Ris w7 b s mv g6 := by unfold tk at hR7; rw [hq] at hR7; exact hR7
      clear h1 HR hpk ht hR7
      obtain ⟨i1, i2, i3, i4, i5, i6⟩ := inner_facts hI6 barL 0
      have hpl := inner_place (s := s) hb6 barL 0
      have HM : Hid (rk s (inner s g6 barL 0).2 < rk s g6 ∧ rk s g6 ≤ m ∧ acc.length + rk s g6 ≤ 401) := ⟨rk_lt hI6 hb6 (fun h => (i6 h).2), hrk, hal⟩
      have hal' : acc.length ≤ 401 := by omega
      clear hrk hal
      go_wp2_with fail
      refine (byteFrom_l0 b s mv g6 _ hR7' hs (hI6.1 hb6) hb6).mono ?_
      rintro e w8 ⟨rfl, hR8, hK8⟩
      have hO8 := own_kept hO7 hK8 (fun i hi' => by have := (hO7.lt i hi').1; omega)
      have hK8' := hK7'.trans hK8
      have hz8 := hK8'.size
      generalize inner s g6 barL 0 = I at *
      obtain ⟨x, g8⟩ := I
      dsimp only at *
      cases hq8 : decide (g8.bad < 0)
      · have hb8 : ¬ g8.bad < 0 := by simpa using hq8
        have h2 := H1.out
        rw [litF_bad (by omega)] at h2
        subst h2
        have HP2 : Hid ((lit s g).2.bad = g8.bad) := by unfold Hid; rw [HP.out]; rfl
        go_wp2
        go_ret2
        refine ⟨⟨_, by rw [HP2.out, hq8]; rfl, fun h => absurd h (by rw [HP2.out]; omega)⟩, ⟨fun h => absurd h (by rw [HP2.out]; omega), fun _ => ⟨g8, hR8, by rw [HP2.out]; exact hpl (by omega)⟩⟩, hK8'⟩
      · have hb8 : g8.bad < 0 := by simpa using hq8
        go_wp2_with (at_builtin; refine wpList_append_lies _ rfl _ _ _ rfl w.heap.size 5 i0 _ 1 1 Try.underlying88 hi0 hz0 hz1 hz2 rfl (by omega) u4 acc.length (acc.map u8V) (by rfl) (hO8.alloc _) ⟨w8.heap.size, 0, none⟩ 1 1 [.int .u8 (x : Int)] (by rfl) rfl (World.news_of_block (cs := #[.int .u8 (x : Int)]) (t := 5) (fr := (0, 0)) (heap_alloc_new w8 _)) (by simp [Value.oneCell']) (by omega) (by simp [maxLen]; omega) (by omega) (by simp; omega) (w8.heap.size + 1) (by simp) ?_; intro gg cap w9 hown hgrow hat hlt)
        go_roundg (m - 1)
        case measure => have := HM.out; omega
        case rel =>
          have := HM.out
          have hKg : Kept (· = b) w w9 := (hK8'.alloc _).grown hgrow (fun k hk hlt' => by have := (hO8.lt k hk).1; omega)
          refine ⟨acc ++ [x.toUInt8], g8, by omega, i1, hb8, by simp; omega, ?_, ?_, hKg, ?_⟩
          · have hk8 : Kept (fun k => u4.ownBlock = some k) w8 w9 := ((Kept.refl _ w8).alloc _).grown hgrow (fun k hk _ => hk)
            exact hR8.kept hk8 (fun h => by have := (hO8.lt b h).1; omega)
          · have hx : u8V x.toUInt8 = .int .u8 (x : Int) := by
              unfold u8V
              rw [show x.toUInt8.toNat = x by simp [Nat.toUInt8]; omega]
            rw [List.length_append, List.map_append, List.map_cons, List.map_nil, hx]
            exact hown
          · rw [show m - 1 + 1 = m by omega]; exact H1.out
    · have hpk : pk s g6 = 39 := by rw [hq] at ht; simpa using ht.symm
      have h1 := HR.out
      rw [litF, if_neg (by simp [hpk])] at h1
      subst h1
      have hR7' : Ris w7 b s mv (adv g6) := by unfold tk at hR7; rw [hq] at hR7; exact hR7
      have hcv := convert_own hO7
      have HP2 : Hid (lit s g = (acc, adv g6)) := HP
      clear HR hpk ht hR7 HL
      go_wp2
      go_ret2
      refine ⟨⟨ba acc, by rw [HP2.out]; simp [show (adv g6).bad < 0 from hb6], fun h => by rw [HP2.out]⟩, by rw [HP2.out]; exact ⟨fun _ => hR7', fun h => absurd h (by show ¬ 0 ≤ g6.bad; omega)⟩, hK7'⟩
end Go.Proofs.Ytagklnaaoclmhaa

namespace Go.Proofs.Ytagklnaaoclmhaa
open Go.RowKit

theorem setR_place {s : ByteArray} {g : Sc} (hi : Iv s g) (hb : g.bad < 0) (h : 0 ≤ (setR s g).2.bad) : ((setR s g).2.at_ : Int) = (setR s g).2.bad := by
  revert h
  unfold setR
  split
  · next h45 =>
    obtain ⟨p1, p2, p3⟩ := pk_pos (s := s) (g := (inner s g barC 0).2) (by omega)
    intro h; exact inner_place (g := adv (inner s g barC 0).2) p1 _ _ h
  · intro h; exact inner_place hb _ _ h

theorem setF_bad {s : ByteArray} {n : Nat} {f : Bool} {g : Sc} (h : 0 ≤ g.bad) : setF s n f g = ([], g) := by
  cases n with
  | zero => rfl
  | succ n => rw [setF, if_neg (by omega)]
theorem setF_end {s : ByteArray} {n : Nat} {g : Sc} (h : pk s g = 93) : setF s n false g = ([], g) := by
  cases n with
  | zero => rfl
  | succ n => rw [setF, if_neg (by simp [h])]
theorem setF_first {s : ByteArray} {n : Nat} {g : Sc} (hb : g.bad < 0) (h : pk s g ≠ 93) : setF s (n + 1) false g = setF s (n + 1) true g := by
  rw [setF, setF, if_pos ⟨hb, .inr h⟩, if_pos ⟨hb, .inl rfl⟩]

def rgV (r : Nat × Nat) : List Value := [.int .u8 (r.1 : Int), .int .u8 (r.2 : Int)]
theorem info118 : (Try.prog.info? 118).map (fun i => (i.zero, i.size, i.bytes)) = some (some (.agg #[.int .u8 0, .int .u8 0]), 2, 2) := by kernel_rfl

set_option maxHeartbeats 1600000 in
theorem ranges_any (b : Nat) (s : ByteArray) (mv : Value) (g : Sc) (w : World) (hR : Ris w b s mv g) (hs : s.size ≤ 400) (hi : Iv s g) (hb : g.bad < 0) :
    Calls Try.prog 69 #[.pointer (some ⟨b, 0, none⟩)] w fun e w' => (∃ v, e = .returned (.tuple #[v, .bool (decide ((set s g).2.bad < 0))]) ∧ ((set s g).2.bad < 0 → w'.ownsRow w.heap.size 118 2 v (set s g).1.length ((set s g).1.flatMap rgV)) ∧ (0 ≤ (set s g).2.bad → v = .slice none 0 0)) ∧ Ends w' b s mv (set s g).2 ∧ Kept (· = b) w w' := by
  obtain ⟨i0, hi0, hz0, hz1, hz2⟩ := info_parts info118
  have hbw := hR.lt
  obtain ⟨L, hL⟩ : ∃ L, setF s (s.size + 2) true g = L := ⟨_, rfl⟩
  have HP : Hid (set s g = (L.1, adv L.2)) := by unfold Hid set; rw [hL]
  have HL : Hid ([] ++ (setF s (s.size + 1 + 1) true g).1 = L.1 ∧ (setF s (s.size + 1 + 1) true g).2 = L.2) := by
    unfold Hid; rw [hL]; exact ⟨rfl, rfl⟩
  clear hL
  go_enter Try.func69, Try.ntmps69
  go_wp2
  go_loopg [4] (s.size + 1) (fun n v wx => ∃ acc g6, rk s g6 ≤ n ∧ Iv s g6 ∧ g6.bad < 0 ∧ acc.length + rk s g6 ≤ 401 ∧ Ris wx b s mv g6 ∧ wx.ownsRow w.heap.size 118 2 v acc.length (acc.flatMap rgV) ∧ Kept (· = b) w wx ∧ Hid (acc ++ (setF s (n + 1) true g6).1 = L.1 ∧ (setF s (n + 1) true g6).2 = L.2))
  case atStart => exact ⟨[], g, rk_le _ _, hi, hb, by have := rk_le s g; simp; omega, hR, World.ownsRow_nil _ _ _ _, Kept.refl _ _, HL.out⟩
  case round =>
    obtain ⟨acc, g6, hrk, hI6, hb6, hal, hR6, hO6, hK6, HR⟩ := hrel
    obtain ⟨m, hm⟩ : ∃ m, m = gk := ⟨gk, rfl⟩
    subst hm
    have h1 := HR.out
    rw [setF, if_pos ⟨hb6, .inl rfl⟩] at h1
    have H1 := hide h1
    clear h1 HR
    obtain ⟨i1, i2, i3, i4, i5, i6, i7⟩ := setR_facts hI6
    have hpl := setR_place hI6 hb6
    have HM : Hid (rk s (setR s g6).2 < rk s g6 ∧ rk s g6 ≤ m ∧ acc.length + rk s g6 ≤ 401) := ⟨rk_lt hI6 hb6 (fun h => (i7 h).2), hrk, hal⟩
    have hal' : acc.length ≤ 401 := by omega
    clear hrk hal
    go_wp2_with fail
    refine (oneRange_any b s mv g6 _ hR6 hs hI6 hb6).mono ?_
    rintro e w8 ⟨rfl, hR8, hK8⟩
    have hO8 := own_kept hO6 hK8 (fun i hi' => by have := (hO6.lt i hi').1; omega)
    have hK8' := hK6.trans hK8
    have hz8 := hK8'.size
    generalize setR s g6 = I at *
    obtain ⟨⟨x, y⟩, g8⟩ := I
    dsimp only at *
    cases hq8 : decide (g8.bad < 0)
    · have hb8 : ¬ g8.bad < 0 := by simpa using hq8
      have h2 := H1.out
      rw [setF_bad (by omega)] at h2
      have HP2 : Hid ((set s g).2.bad = g8.bad) := by unfold Hid; rw [HP.out, ← h2.2]; rfl
      go_wp2
      go_ret2
      refine ⟨⟨.slice none 0 0, by rw [HP2.out, hq8]; rfl, fun h => absurd h (by rw [HP2.out]; omega), fun _ => rfl⟩, ⟨fun h => absurd h (by rw [HP2.out]; omega), fun _ => ⟨g8, hR8.alloc _, by rw [HP2.out]; exact hpl (by omega)⟩⟩, hK8'.alloc _⟩
    · have hb8 : g8.bad < 0 := by simpa using hq8
      have ht := pk_nx (s := s) hb8 (i1.1 hb8) (c := 93) (by decide)
      go_wp2_with (at_builtin; refine wpList_append_lies _ rfl _ _ _ rfl w.heap.size 118 i0 _ 2 2 Try.underlying76 hi0 hz0 hz1 hz2 rfl (by omega) u4 acc.length (acc.flatMap rgV) (by rfl) ((hO8.alloc _).alloc _) ⟨w8.heap.size + 1, 0, none⟩ 1 1 [.int .u8 (x : Int), .int .u8 (y : Int)] (by rfl) rfl (World.news_of_block (cs := #[.int .u8 (x : Int), .int .u8 (y : Int)]) (t := 118) (fr := (0, 0)) (by simpa using heap_alloc_new (w8.alloc (.cells #[.int .u8 (x : Int), .int .u8 (y : Int)] 118)) _)) (by simp [Value.oneCell']) (by omega) (by simp [maxLen]; omega) (by omega) (by simp; omega) (w8.heap.size + 2) (by simp) ?_; intro gg cap w9 hown hgrow hat hlt)
      have hKg : Kept (· = b) w w9 := ((hK8'.alloc _).alloc _).grown hgrow (fun k hk hlt' => by have := (hO8.lt k hk).1; omega)
      have hk8 : Kept (fun k => u4.ownBlock = some k) w8 w9 := (((Kept.refl _ w8).alloc _).alloc _).grown hgrow (fun k hk _ => hk)
      have hR9 : Ris w9 b s mv g8 := hR8.kept hk8 (fun h => by have := (hO8.lt b h).1; omega)
      have hO9 : w9.ownsRow w.heap.size 118 2 (.slice (some ⟨gg, 0, none⟩) (acc.length + 1) cap) (acc ++ [(x, y)]).length ((acc ++ [(x, y)]).flatMap rgV) := by
        rw [List.length_append, List.flatMap_append]
        simpa [rgV] using hown
      refine (take_any b s mv g8 93 _ hR9 hs (i1.1 hb8) (by decide)).mono ?_
      rintro e w10 ⟨rfl, hR10, hK10⟩
      have hO10 := own_kept hO9 hK10 (fun i hi' => by have := (hO9.lt i hi').1; omega)
      have hK10' := hKg.trans hK10
      generalize hsl : Value.slice (some ⟨gg, 0, none⟩) (acc.length + 1) cap = v10 at *
      clear hown hgrow hat hlt hKg hk8 hR9 hO9 hK10 hO8 hK8' hK8
      cases hq : tkB s g8 93
      · have hpk : pk s g8 ≠ 93 := by rw [hq] at ht; simpa using ht.symm
        have hR10' : Ris w10 b s mv g8 := by unfold tk at hR10; rw [hq] at hR10; exact hR10
        clear hR10 ht
        have hrk8 : 0 < rk s g8 := by
          have := i1.1 hb8
          unfold rk; rw [if_pos hb8]; omega
        have HH : Hid (0 < m) := by have := HM.out; unfold Hid; omega
        have H2 : Hid ((acc ++ [(x, y)]) ++ (setF s (m - 1 + 1) true g8).1 = L.1 ∧ (setF s (m - 1 + 1) true g8).2 = L.2) := by
          have := HH.out
          have h2 := H1.out
          rw [← setF_first hb8 hpk, show m - 1 + 1 = m by omega]
          exact ⟨by rw [List.append_assoc]; exact h2.1, h2.2⟩
        clear hrk8
        go_wp2
        go_roundg (m - 1)
        case measure => have := HM.out; omega
        case rel =>
          have := HM.out
          exact ⟨acc ++ [(x, y)], g8, by omega, i1, hb8, by simp; omega, hR10', hO10, hK10', H2.out⟩
      · have hpk : pk s g8 = 93 := by rw [hq] at ht; simpa using ht.symm
        have hR10' : Ris w10 b s mv (adv g8) := by unfold tk at hR10; rw [hq] at hR10; exact hR10
        clear hR10 ht
        have h2 := H1.out
        rw [setF_end hpk] at h2
        have HP2 : Hid (set s g = (acc ++ [(x, y)], adv g8)) := by unfold Hid; rw [HP.out, ← h2.1, ← h2.2]
        clear h2 H1 HP HL
        go_wp2
        go_ret2
        refine ⟨⟨v10, by rw [HP2.out]; simp [show (adv g8).bad < 0 from hb8], fun h => by rw [HP2.out]; exact hO10, fun h => absurd h (by rw [HP2.out]; show ¬ 0 ≤ g8.bad; omega)⟩, by rw [HP2.out]; exact ⟨fun _ => hR10', fun h => absurd h (by show ¬ 0 ≤ g8.bad; omega)⟩, hK10'⟩
end Go.Proofs.Ytagklnaaoclmhaa
