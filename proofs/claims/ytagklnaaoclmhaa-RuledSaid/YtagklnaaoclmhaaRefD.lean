import Derived.Test.YtagklnaaoclmhaaRefA
import Derived.Deep.MidRow
import Derived.Laws.BytesString
set_option linter.unusedSimpArgs false
set_option linter.unusedVariables false
namespace Go.Proofs.Ytagklnaaoclmhaa
open Go.RowKit

/-- word's loop. -/
def wd (s : ByteArray) : Nat → List UInt8 → Sc → List UInt8 × Sc
  | 0, acc, g => (acc, g)
  | f + 1, acc, g =>
    if letterB (pk s g) then (if acc.length = 8 then (acc, wr g) else wd s f (acc ++ [(pk s g).toUInt8]) (adv g))
    else (acc, if acc = [] then wr g else g)
def word (s : ByteArray) (g : Sc) : List UInt8 × Sc := wd s 10 [] (bl s g)

def ba (l : List UInt8) : ByteArray := ⟨l.toArray⟩

theorem ba_toList (l : List UInt8) : (ba l).toList = l := ByteArray.toList_mk l

theorem ba_append (l m : List UInt8) : ba (l ++ m) = ba l ++ ba m := by
  apply ByteArray.ext
  simp [ba]

/-- One byte, made a text. -/
theorem convert_one (W : World) (k : Nat) (n : Nat) (hn : n < 256) (h : objAt W k = some (.cells #[.int .u8 (n : Int)] 5)) :
    (convert 88 9 (.slice (some ⟨k, 0, none⟩) 1 1)).run Try.prog W = .ok (.string (ba [n.toUInt8])) W := by
  rw [run_convert_bytes_string W 88 9 5 _ 1 1 Try.underlying88 Try.underlying5 Try.underlying9]
  have hl : (loadCells ⟨k, 0, none⟩ 1).run Try.prog W = .ok ([(n : Int)].map (Value.int .u8)).toArray W := by
    refine run_loadCells_list (P := Try.prog) W ⟨k, 0, none⟩ [.int .u8 (n : Int)] (fun j v hv => ?_)
    rw [Addr.add_mid, Nat.zero_add, cell_of_row W k j _ 5 (0, 0) h]
    simpa using hv
  rw [run_bytesToString W ⟨k, 0, none⟩ 1 1 [(n : Int)] hl]
  simp [ba]
  rfl

/-- peek, where the walk stops. -/
theorem pk_le (s : ByteArray) (g : Sc) : pk s g < 256 := by
  unfold pk byteAt
  split
  · exact UInt8.toNat_lt _
  · omega

theorem skipF_le (s : ByteArray) : ∀ f i, skipF s f i ≤ i + f
  | 0, i => by simp [skipF]
  | f + 1, i => by
    rw [skipF]
    split
    · have := skipF_le s f (i + 1); omega
    · omega
theorem bl_at_le (s : ByteArray) (g : Sc) : (bl s g).at_ ≤ g.at_ + s.size := by
  unfold bl
  split
  · have := skipF_le s (s.size - g.at_) g.at_
    show skipF s (s.size - g.at_) g.at_ ≤ _
    omega
  · omega

set_option maxRecDepth 100000 in
set_option maxHeartbeats 1600000 in
theorem word_any (b : Nat) (s : ByteArray) (nv rv : Value) (g : Sc) (w : World) (hG : Gis w b s nv rv g) (hs : s.size ≤ 400) (hat : g.at_ ≤ 10000) :
    Calls Try.prog 17 #[.pointer (some ⟨b, 0, none⟩)] w fun e w' => e = .returned (.string (ba (word s g).1)) ∧ Gis w' b s nv rv (word s g).2 ∧ Kept (· = b) w w' := by
  have HW : Hid (word s g = wd s 10 [] (bl s g)) := rfl
  generalize word s g = r at *
  go_enter Try.func17, Try.ntmps17
  go_wp2_with fail
  refine (blanks_any b s nv rv g _ hG hs).mono ?_
  rintro e w1 ⟨rfl, hR, hK⟩
  have hat1 : (bl s g).at_ ≤ 10400 := by have := bl_at_le s g; omega
  generalize bl s g = g1 at *
  go_wp2
  go_loopg [3] 8 (fun n v wr => ∃ acc g2, v = .string (ba acc) ∧ acc.length + n = 8 ∧ g2.at_ ≤ 10400 + acc.length ∧ Gis wr b s nv rv g2 ∧ Kept (· = b) w wr ∧ Hid (wd s (n + 2) acc g2 = r))
  case atStart => exact ⟨[], g1, rfl, rfl, by simpa using hat1, hR, hK, HW.out.symm⟩
  case round =>
    obtain ⟨acc, g2, rfl, hn, hat2, hR2, hK2, HR⟩ := hrel
    have hpk := pk_le s g2
    have hsz : (ba acc).size = acc.length := by simp [ba, ByteArray.size]
    have HR' := HR.out
    rw [wd] at HR'
    go_wp2_with fail
    refine (peek_any b s nv rv g2 _ hR2 hs).mono ?_
    rintro e w3 ⟨rfl, n3, rfl⟩
    go_wp2_with fail
    refine (letter_any _ _).mono ?_
    rintro e w4 ⟨rfl, rfl⟩
    cases hb : letterB (pk s g2 : Int)
    · rw [hb] at HR'
      simp only [Bool.false_eq_true, if_false] at HR'
      have HF := hide HR'
      clear HR' HR
      by_cases ha : acc = []
      · subst ha
        have hE : (ba []).toList.isEmpty = true := by simp [ba]
        go_wp2_with fail
        refine (wrong_any b s nv rv g2 _ (hR2.drewN _)).mono ?_
        rintro e w5 ⟨rfl, hR5, hK5⟩
        go_wp2
        go_ret
        exact ⟨by rw [← HF.out]; rfl, by rw [← HF.out]; exact hR5, (hK2.drewN _).trans hK5⟩
      · have hE : (ba acc).toList.isEmpty = false := by rw [ba_toList]; simp [ha]
        go_wp2
        go_ret
        exact ⟨by rw [← HF.out]; rfl, by rw [← HF.out]; simp only [ha, if_false]; exact hR2.drewN _, hK2.drewN _⟩
    · rw [hb] at HR'
      simp only [if_true] at HR'
      by_cases h8 : acc.length = 8
      · rw [if_pos h8] at HR'
        have HF := hide HR'
        clear HR' HR
        have h8' : (((ba acc).size : Int) == 8) = true := by simp; omega
        go_wp2_with fail
        refine (wrong_any b s nv rv g2 _ (hR2.drewN _)).mono ?_
        rintro e w5 ⟨rfl, hR5, hK5⟩
        go_wp2
        go_ret
        exact ⟨by rw [← HF.out]; rfl, by rw [← HF.out]; exact hR5, (hK2.drewN _).trans hK5⟩
      · rw [if_neg h8] at HR'
        have HF := hide HR'
        clear HR' HR
        have h8' : (((ba acc).size : Int) == 8) = false := by simp; omega
        obtain ⟨c0, c1, c2, c3, c4, c5, c6⟩ := hR2.cells
        have hf := hR2.frozen 5
        have hcv := convert_one ((wr.drewN n3).alloc (.cells #[.int .u8 (pk s g2 : Int)] 5)) wr.heap.size (pk s g2) hpk (objAt_new (wr.drewN n3) _)
        have hcl : ∀ o, ((wr.drewN n3).alloc (.cells #[.int .u8 (pk s g2 : Int)] 5)).cell? ⟨b, o, none⟩ = wr.cell? ⟨b, o, none⟩ := fun o => World.cell?_alloc_lt _ _ _ hR2.lt
        have hfl : ∀ o, ((wr.drewN n3).alloc (.cells #[.int .u8 (pk s g2 : Int)] 5)).frozen? ⟨b, o, none⟩ = wr.frozen? ⟨b, o, none⟩ := fun o => World.frozen?_alloc_past _ _ _ hR2.lt
        have hsz2 : (ba [UInt8.ofNat (pk s g2)]).size = 1 := rfl
        have hlen : acc.length ≤ 8 := by omega
        have HN : Hid (acc.length + gk = 8 ∧ acc.length ≠ 8) := ⟨hn, h8⟩
        clear hn h8
        go_wp2
        go_roundg (gk - 1)
        case measure => have := HN.out; omega
        case rel =>
          have := HN.out
          refine ⟨acc ++ [(pk s g2).toUInt8], adv g2, by rw [ba_append], by simp; omega, by simp [adv]; omega, ((hR2.drewN n3).alloc _).setAt _, ((hK2.drewN n3).alloc _).setCell (fun _ => rfl) _, ?_⟩
          rw [show gk - 1 + 2 = gk + 1 by omega]; exact HF.out

end Go.Proofs.Ytagklnaaoclmhaa

namespace Go.Proofs.Ytagklnaaoclmhaa
open Go.RowKit

def inB (l : List UInt8) (c : Nat) : Bool := l.any (fun b => b.toNat == c)

theorem any_take_succ {l : List UInt8} {k : Nat} (h : k < l.length) (p : UInt8 → Bool) : (l.take (k + 1)).any p = ((l.take k).any p || p l[k]) := by
  rw [List.take_succ_eq_append_getElem h, List.any_append]; simp

set_option maxHeartbeats 800000 in
theorem in_any (s : ByteArray) (c : Nat) (w : World) (hs : s.size ≤ 1000) :
    Calls Try.prog 64 #[.string s, .int .u8 (c : Int)] w fun e w' => e = .returned (.bool (inB s.data.toList c)) ∧ w' = w := by
  go_enter Try.func64, Try.ntmps64
  go_wp2
  go_loop [5] (fun i => ∃ k : Nat, k ≤ s.size ∧ i = .int .i64 k ∧ Hid ((s.data.toList.take k).any (fun b => b.toNat == c) = false)) (fun i => s.size - (intOf i).toNat)
  case atStart => exact ⟨0, Nat.zero_le _, rfl, by simp [Hid]⟩
  case round =>
    obtain ⟨k, hk, rfl, HA⟩ := hrel
    by_cases hlt : k < s.size
    · have hlt' : k < s.data.toList.length := by simpa using hlt
      have hts := any_take_succ hlt' (fun b => b.toNat == c)
      rw [HA.out] at hts
      have hget : s.data.toList[k] = s[k] := by simp; rfl
      rw [hget] at hts
      by_cases hc : s[k].toNat = c
      · have hc' : ((s[k].toNat : Int) == (c : Int)) = true := by simp; omega
        have HR : Hid (inB s.data.toList c = true) := by
          unfold Hid inB
          rw [List.any_eq_true]
          exact ⟨s[k], by rw [← hget]; exact List.getElem_mem _, by simp [hc]⟩
        clear hc hts HA
        go_wp2
        go_ret
        exact ⟨by rw [HR.out]; rfl, rfl⟩
      · have hc' : ((s[k].toNat : Int) == (c : Int)) = false := by simp; omega
        have HR : Hid ((s.data.toList.take (k + 1)).any (fun b => b.toNat == c) = false) := by
          unfold Hid; rw [hts]; simp [hc]
        clear hc hts HA
        go_wp2
        go_round
        case rel => exact ⟨k + 1, by omega, by go_num, HR⟩
        case measure => simp [intOf]; omega
    · have HR : Hid (inB s.data.toList c = false) := by
        unfold Hid inB
        rw [← HA.out, List.take_of_length_le (by simp; omega)]
      clear HA
      go_wp2
      go_ret
      exact ⟨by rw [HR.out]; rfl, rfl⟩

def esc : List UInt8 := [110, 39, 92, 93, 45]

/-- inner. -/
def inner2 (s : ByteArray) (g : Sc) (least : Nat) : Nat × Sc :=
  if moreB s g = false then (0, wr g)
  else if inB esc (byteAt s g.at_) = false then (0, wr g)
  else if (if byteAt s g.at_ = 110 then 10 else byteAt s g.at_) < least then (0, wr g)
  else ((if byteAt s g.at_ = 110 then 10 else byteAt s g.at_), adv g)
def inner (s : ByteArray) (g : Sc) (barred : List UInt8) (least : Nat) : Nat × Sc :=
  if moreB s g = false then (0, wr g)
  else if byteAt s g.at_ ≠ 92 then
    if inB barred (byteAt s g.at_) = true then (0, wr g)
    else if byteAt s g.at_ < least then (0, wr g)
    else (byteAt s g.at_, adv g)
  else if 93 < least then (0, wr g)
  else inner2 s (adv g) least

theorem ret_i64 {a b : Int} (h : a = b) : Ending.returned (.int .i64 a) = .returned (.int .i64 b) := by rw [h]
theorem byteAt_lt (s : ByteArray) (i : Nat) : byteAt s i < 256 := UInt8.toNat_lt _
theorem wrap64_byte' (n : Nat) (h : n < 256) : wrap64 (n : Int) = n := by unfold wrap64; omega

set_option maxRecDepth 100000 in
set_option maxHeartbeats 3200000 in
theorem inner_any (b : Nat) (s bs : ByteArray) (nv rv : Value) (g : Sc) (least : Nat) (w : World) (hG : Gis w b s nv rv g) (hs : s.size ≤ 400) (hbs : bs.size ≤ 1000) (hl : least < 256) (hat : g.at_ ≤ 10000) :
    Calls Try.prog 61 #[.pointer (some ⟨b, 0, none⟩), .string bs, .int .i64 (least : Int)] w fun e w' => e = .returned (.int .i64 ((inner s g bs.data.toList least).1 : Int)) ∧ Gis w' b s nv rv (inner s g bs.data.toList least).2 ∧ Kept (· = b) w w' := by
  have HI : Hid (inner s g bs.data.toList least = inner s g bs.data.toList least) := rfl
  generalize h0 : inner s g bs.data.toList least = r at *
  clear HI
  unfold inner at h0
  have H0 := hide h0
  clear h0
  go_enter Try.func61, Try.ntmps61
  go_wp2_with fail
  refine (more_any b s nv rv g _ hG hs).mono ?_
  rintro e w1 ⟨rfl, n1, rfl⟩
  by_cases hm : g.bad < 0 ∧ g.at_ < s.size
  · obtain ⟨hm1, hm2⟩ := hm
    have hmore : moreB s g = true := by simp [moreB, hm1, hm2]
    rw [hmore]
    have h1 := H0.out
    rw [hmore] at h1
    simp only [Bool.true_eq_false, if_false] at h1
    obtain ⟨c0, c1, c2, c3, c4, c5, c6⟩ := hG.cells
    have hf := hG.frozen 5
    have hbl := byteAt_lt s g.at_
    have hget := byteAt_get hm2
    by_cases h92 : byteAt s g.at_ = 92
    · rw [if_neg (by simpa using h92)] at h1
      have h92' : ((s[g.at_].toNat : Int) != 92) = false := by rw [← hget]; simp; omega
      clear hget hbl h92 H0
      by_cases h93 : 93 < least
      · rw [if_pos h93] at h1
        subst h1
        go_wp2_with fail
        go_quiet (fail)
        go_wp2_with fail
        refine (wrong_any b s nv rv g _ (hG.drewN _)).mono ?_
        rintro e w2 ⟨rfl, hR2, hK2⟩
        go_wp2
        go_ret
        exact ⟨rfl, hR2, ((Kept.refl _ _).drewN _).trans hK2⟩
      · rw [if_neg h93] at h1
        have H1 := hide h1
        clear h1
        go_wp2_with fail
        go_quiet (fail)
        go_wp2_with fail
        have hG1 : Gis ((w.drewN (n1 + nq)).setCell ⟨b, 5, none⟩ (.int .i64 ((g.at_ : Int) + 1))) b s nv rv (adv g) := (hG.drewN _).setAt _
        have hK1 : Kept (· = b) w ((w.drewN (n1 + nq)).setCell ⟨b, 5, none⟩ (.int .i64 ((g.at_ : Int) + 1))) := ((Kept.refl (· = b) w).drewN _).setCell (fun _ => rfl) _
        generalize hw2 : ((w.drewN (n1 + nq)).setCell ⟨b, 5, none⟩ (.int .i64 ((g.at_ : Int) + 1))) = w2 at *
        clear hw2 c0 c1 c2 c3 c4 c5 c6 hf hmore
        have hat1 : (adv g).at_ ≤ 10001 := by simp [adv]; omega
        generalize adv g = g1 at *
        obtain ⟨c0, c1, c2, c3, c4, c5, c6⟩ := hG1.cells
        have hf := hG1.frozen 5
        have h2 := H1.out
        unfold inner2 at h2
        clear H1
        refine (more_any b s nv rv g1 _ hG1 hs).mono ?_
        rintro e w3 ⟨rfl, n3, rfl⟩
        by_cases hm : g1.bad < 0 ∧ g1.at_ < s.size
        · obtain ⟨hm3, hm4⟩ := hm
          have hmore : moreB s g1 = true := by simp [moreB, hm3, hm4]
          rw [hmore] at h2 ⊢
          simp only [Bool.true_eq_false, if_false] at h2
          have H2 := hide h2
          clear h2
          have hbl := byteAt_lt s g1.at_
          have Hget := hide (byteAt_get hm4)
          go_wp2_with fail
          go_quiet (fail)
          rw [← Hget.out]
          by_cases h110 : byteAt s g1.at_ = 110
          · have h110' : ((byteAt s g1.at_ : Int) == 110) = true := by simp; omega
            have H3 := hide H2.out
            clear H2
            have H110 := hide h110
            clear h110
            go_wp2_with fail
            refine (in_any ⟨#[110, 39, 92, 93, 45]⟩ (byteAt s g1.at_) _ (by decide)).mono ?_
            rintro e w4 ⟨rfl, rfl⟩
            cases hin : inB esc (byteAt s g1.at_)
            · have hin' : inB (ByteArray.mk #[110, 39, 92, 93, 45]).data.toList (byteAt s g1.at_) = false := hin
              rw [hin']
              have h4 := H3.out
              rw [hin] at h4
              simp only [if_true] at h4
              subst h4
              clear H3 hin hin'
              go_wp2_with fail
              refine (wrong_any b s nv rv g1 _ (hG1.drewN _)).mono ?_
              rintro e w5 ⟨rfl, hR5, hK5⟩
              go_wp2
              go_ret
              exact ⟨rfl, hR5, (hK1.drewN _).trans hK5⟩
            · have hin' : inB (ByteArray.mk #[110, 39, 92, 93, 45]).data.toList (byteAt s g1.at_) = true := hin
              rw [hin']
              have h4 := H3.out
              rw [hin] at h4
              simp only [Bool.true_eq_false, if_false, H110.out, if_true] at h4
              by_cases hle : 10 < least
              · rw [if_pos hle] at h4
                subst h4
                clear H3 hin hin'
                go_wp2_with fail
                refine (wrong_any b s nv rv g1 _ (hG1.drewN _)).mono ?_
                rintro e w5 ⟨rfl, hR5, hK5⟩
                go_wp2
                go_ret
                exact ⟨rfl, hR5, (hK1.drewN _).trans hK5⟩
              · rw [if_neg hle] at h4
                subst h4
                clear H3 hin hin'
                go_wp2
                go_ret
                exact ⟨rfl, (hG1.drewN _).setAt _, (hK1.drewN _).setCell (fun _ => rfl) _⟩
          · have h110' : ((byteAt s g1.at_ : Int) == 110) = false := by simp; omega
            have H3 := hide H2.out
            clear H2
            have H110 := hide h110
            clear h110
            go_wp2_with fail
            refine (in_any ⟨#[110, 39, 92, 93, 45]⟩ (byteAt s g1.at_) _ (by decide)).mono ?_
            rintro e w4 ⟨rfl, rfl⟩
            cases hin : inB esc (byteAt s g1.at_)
            · have hin' : inB (ByteArray.mk #[110, 39, 92, 93, 45]).data.toList (byteAt s g1.at_) = false := hin
              rw [hin']
              have h4 := H3.out
              rw [hin] at h4
              simp only [if_true] at h4
              subst h4
              clear H3 hin hin'
              go_wp2_with fail
              refine (wrong_any b s nv rv g1 _ (hG1.drewN _)).mono ?_
              rintro e w5 ⟨rfl, hR5, hK5⟩
              go_wp2
              go_ret
              exact ⟨rfl, hR5, (hK1.drewN _).trans hK5⟩
            · have hin' : inB (ByteArray.mk #[110, 39, 92, 93, 45]).data.toList (byteAt s g1.at_) = true := hin
              rw [hin']
              have h4 := H3.out
              rw [hin] at h4
              simp only [Bool.true_eq_false, if_false, H110.out] at h4
              by_cases hle : byteAt s g1.at_ < least
              · rw [if_pos hle] at h4
                subst h4
                clear H3 hin hin'
                go_wp2_with fail
                refine (wrong_any b s nv rv g1 _ (hG1.drewN _)).mono ?_
                rintro e w5 ⟨rfl, hR5, hK5⟩
                go_wp2
                go_ret
                exact ⟨rfl, hR5, (hK1.drewN _).trans hK5⟩
              · rw [if_neg hle] at h4
                subst h4
                clear H3 hin hin'
                go_wp2
                go_ret
                exact ⟨rfl, (hG1.drewN _).setAt _, (hK1.drewN _).setCell (fun _ => rfl) _⟩
        · have hmore : moreB s g1 = false := by simp [moreB]; omega
          rw [hmore] at h2 ⊢
          simp only [if_true] at h2
          subst h2
          go_wp2_with fail
          refine (wrong_any b s nv rv g1 _ (hG1.drewN _)).mono ?_
          rintro e w2 ⟨rfl, hR2, hK2⟩
          go_wp2
          go_ret
          exact ⟨rfl, hR2, (hK1.drewN _).trans hK2⟩
    · rw [if_pos h92] at h1
      have h92' : ((s[g.at_].toNat : Int) != 92) = true := by rw [← hget]; simp; omega
      have Hget := hide hget
      have H1 := hide h1
      clear hget h1 H0
      go_wp2_with fail
      go_quiet (fail)
      go_wp2_with fail
      rw [← Hget.out]
      refine (in_any bs _ _ hbs).mono ?_
      rintro e w2 ⟨rfl, rfl⟩
      cases hin : inB bs.data.toList (byteAt s g.at_)
      · have h2 := H1.out
        rw [hin] at h2
        simp only [Bool.false_eq_true, if_false] at h2
        by_cases hle : byteAt s g.at_ < least
        · rw [if_pos hle] at h2
          subst h2
          clear H1 hin h92
          go_wp2_with fail
          refine (wrong_any b s nv rv g _ (hG.drewN _)).mono ?_
          rintro e w2 ⟨rfl, hR2, hK2⟩
          go_wp2
          go_ret
          exact ⟨rfl, hR2, ((Kept.refl _ _).drewN _).trans hK2⟩
        · rw [if_neg hle] at h2
          subst h2
          clear H1 hin h92
          go_wp2
          go_ret
          exact ⟨rfl, (hG.drewN _).setAt _, ((Kept.refl (· = b) _).drewN _).setCell (fun _ => rfl) _⟩
      · have h2 := H1.out
        rw [hin] at h2
        simp only [if_true] at h2
        subst h2
        clear H1 hin h92
        go_wp2_with fail
        refine (wrong_any b s nv rv g _ (hG.drewN _)).mono ?_
        rintro e w2 ⟨rfl, hR2, hK2⟩
        go_wp2
        go_ret
        exact ⟨rfl, hR2, ((Kept.refl _ _).drewN _).trans hK2⟩
  · have hmore : moreB s g = false := by simp [moreB]; omega
    rw [hmore]
    have h1 := H0.out
    rw [hmore] at h1
    simp only [if_true] at h1
    subst h1
    clear H0
    go_wp2_with fail
    refine (wrong_any b s nv rv g _ (hG.drewN _)).mono ?_
    rintro e w2 ⟨rfl, hR2, hK2⟩
    go_wp2
    go_ret
    exact ⟨rfl, hR2, ((Kept.refl _ _).drewN _).trans hK2⟩

end Go.Proofs.Ytagklnaaoclmhaa

namespace Go.Proofs.Ytagklnaaoclmhaa

/-- What always holds of the ref's place. -/
def Iv (s : ByteArray) (g : Sc) : Prop := (g.bad < 0 → g.at_ ≤ s.size) ∧ g.at_ ≤ s.size + 1

theorem wr_at (g : Sc) : (wr g).at_ = g.at_ := by unfold wr; split <;> rfl
theorem wr_t (g : Sc) : (wr g).t = g.t := by unfold wr; split <;> rfl
theorem wr_op (g : Sc) : (wr g).op = g.op := by unfold wr; split <;> rfl
theorem wr_bad (g : Sc) : 0 ≤ (wr g).bad := by
  unfold wr; split
  · exact Int.natCast_nonneg _
  · omega
theorem wr_of_bad {g : Sc} (h : 0 ≤ g.bad) : wr g = g := by unfold wr; rw [if_neg (by omega)]
theorem Iv.wr {s : ByteArray} {g : Sc} (h : Iv s g) : Iv s (wr g) := ⟨fun hb => absurd hb (by have := wr_bad g; omega), by rw [wr_at]; exact h.2⟩

theorem skipF_ge (s : ByteArray) : ∀ f i, i ≤ skipF s f i
  | 0, i => by simp [skipF]
  | f + 1, i => by
    rw [skipF]; split
    · have := skipF_ge s f (i + 1); omega
    · omega
theorem bl_bad (s : ByteArray) (g : Sc) : (bl s g).bad = g.bad := by unfold bl; split <;> rfl
theorem bl_t (s : ByteArray) (g : Sc) : (bl s g).t = g.t := by unfold bl; split <;> rfl
theorem bl_op (s : ByteArray) (g : Sc) : (bl s g).op = g.op := by unfold bl; split <;> rfl
theorem bl_ge (s : ByteArray) (g : Sc) : g.at_ ≤ (bl s g).at_ := by
  unfold bl; split
  · exact skipF_ge _ _ _
  · exact Nat.le_refl _
theorem bl_of_bad {s : ByteArray} {g : Sc} (h : 0 ≤ g.bad) : bl s g = g := by unfold bl; rw [if_neg (by omega)]
theorem Iv.bl {s : ByteArray} {g : Sc} (h : Iv s g) : Iv s (bl s g) := by
  unfold Go.Proofs.Ytagklnaaoclmhaa.bl
  split
  · next hb =>
    have h1 := h.1 hb
    have := skipF_le s (s.size - g.at_) g.at_
    refine ⟨fun _ => ?_, ?_⟩ <;> (show skipF s (s.size - g.at_) g.at_ ≤ _) <;> omega
  · exact h

theorem moreB_true {s : ByteArray} {g : Sc} : moreB s g = true ↔ g.bad < 0 ∧ g.at_ < s.size := by simp [moreB]
theorem moreB_bad {s : ByteArray} {g : Sc} (h : 0 ≤ g.bad) : moreB s g = false := by simp [moreB]; omega
theorem Iv.adv {s : ByteArray} {g : Sc} (h : Iv s g) (hm : g.at_ < s.size) : Iv s (adv g) := ⟨fun _ => by simp [Go.Proofs.Ytagklnaaoclmhaa.adv]; omega, by simp [Go.Proofs.Ytagklnaaoclmhaa.adv]; omega⟩
theorem adv_at (g : Sc) : (adv g).at_ = g.at_ + 1 := rfl
theorem adv_bad (g : Sc) : (adv g).bad = g.bad := rfl
theorem adv_t (g : Sc) : (adv g).t = g.t := rfl
theorem adv_op (g : Sc) : (adv g).op = g.op := rfl
theorem pk_bad {s : ByteArray} {g : Sc} (h : 0 ≤ g.bad) : pk s g = 0 := by unfold pk; rw [if_neg (by omega)]
theorem pk_pos {s : ByteArray} {g : Sc} (h : 0 < pk s g) : g.bad < 0 ∧ g.at_ < s.size ∧ pk s g = byteAt s g.at_ := by
  unfold pk at *
  split at h
  · next hc => exact ⟨hc.1, hc.2, by rw [if_pos hc]⟩
  · omega

theorem sgB_bad {s : ByteArray} {g : Sc} (c : Nat) (h : 0 ≤ g.bad) : sgB s g c = false := by unfold sgB; rw [moreB_bad (by rw [bl_bad]; exact h)]; rfl
theorem sgB_true {s : ByteArray} {g : Sc} {c : Nat} (h : sgB s g c = true) : g.bad < 0 ∧ (bl s g).at_ < s.size := by
  unfold sgB at h
  simp only [Bool.and_eq_true] at h
  have := moreB_true.1 h.1
  rw [bl_bad] at this
  exact this
theorem Iv.sg {s : ByteArray} {g : Sc} (h : Iv s g) (c : Nat) : Iv s (sg s g c) := by
  unfold Go.Proofs.Ytagklnaaoclmhaa.sg
  split
  · next hc => exact h.bl.adv (sgB_true hc).2
  · exact h.bl
theorem sg_ge (s : ByteArray) (g : Sc) (c : Nat) : g.at_ ≤ (sg s g c).at_ := by
  have := bl_ge s g
  unfold sg; split
  · rw [adv_at]; omega
  · exact this
theorem sg_bad (s : ByteArray) (g : Sc) (c : Nat) : (sg s g c).bad = g.bad := by unfold sg; split <;> simp [adv_bad, bl_bad]
theorem sg_t (s : ByteArray) (g : Sc) (c : Nat) : (sg s g c).t = g.t := by unfold sg; split <;> simp [adv_t, bl_t]
theorem sg_op (s : ByteArray) (g : Sc) (c : Nat) : (sg s g c).op = g.op := by unfold sg; split <;> simp [adv_op, bl_op]
theorem sg_of_bad {s : ByteArray} {g : Sc} (c : Nat) (h : 0 ≤ g.bad) : sg s g c = g := by unfold sg; rw [sgB_bad c h]; simp [bl_of_bad h]
theorem Iv.mu {s : ByteArray} {g : Sc} (h : Iv s g) (c : Nat) : Iv s (mu s g c) := by
  unfold Go.Proofs.Ytagklnaaoclmhaa.mu
  split
  · exact h.sg c
  · exact (h.sg c).wr
theorem mu_ge (s : ByteArray) (g : Sc) (c : Nat) : g.at_ ≤ (mu s g c).at_ := by
  have := sg_ge s g c
  unfold mu; split
  · exact this
  · rw [wr_at]; exact this
theorem mu_t (s : ByteArray) (g : Sc) (c : Nat) : (mu s g c).t = g.t := by unfold mu; split <;> simp [wr_t, sg_t]
theorem mu_op (s : ByteArray) (g : Sc) (c : Nat) : (mu s g c).op = g.op := by unfold mu; split <;> simp [wr_op, sg_op]
theorem mu_of_bad {s : ByteArray} {g : Sc} (c : Nat) (h : 0 ≤ g.bad) : mu s g c = g := by unfold mu; rw [sgB_bad c h]; simp [sg_of_bad c h, wr_of_bad h]
theorem mu_good {s : ByteArray} {g : Sc} {c : Nat} (h : (mu s g c).bad < 0) : sgB s g c = true ∧ g.bad < 0 ∧ mu s g c = sg s g c := by
  unfold mu at *
  cases hc : sgB s g c
  · rw [hc] at h
    have := wr_bad (sg s g c)
    simp only [Bool.false_eq_true, if_false] at h
    omega
  · exact ⟨rfl, (sgB_true hc).1, by simp⟩

theorem inner2_facts {s : ByteArray} {g : Sc} (h : Iv s g) (least : Nat) :
    Iv s (inner2 s g least).2 ∧ g.at_ ≤ (inner2 s g least).2.at_ ∧ (inner2 s g least).1 < 256 ∧ (inner2 s g least).2.t = g.t ∧ (inner2 s g least).2.op = g.op ∧ ((inner2 s g least).2.bad < 0 → g.bad < 0) := by
  have hb := byteAt_lt s g.at_
  unfold inner2
  have hv : (if byteAt s g.at_ = 110 then 10 else byteAt s g.at_) < 256 := by split <;> omega
  generalize (if byteAt s g.at_ = 110 then 10 else byteAt s g.at_) = v at *
  cases hm : moreB s g
  · simp only [if_true]; exact ⟨h.wr, by rw [wr_at]; exact Nat.le_refl _, by omega, wr_t _, wr_op _, fun h' => absurd h' (by have := wr_bad g; omega)⟩
  · have hm' := moreB_true.1 hm
    simp only [Bool.true_eq_false, if_false]
    split
    · exact ⟨h.wr, by rw [wr_at]; exact Nat.le_refl _, by omega, wr_t _, wr_op _, fun _ => hm'.1⟩
    · split
      · exact ⟨h.wr, by rw [wr_at]; exact Nat.le_refl _, by omega, wr_t _, wr_op _, fun _ => hm'.1⟩
      · exact ⟨h.adv hm'.2, by rw [adv_at]; omega, hv, rfl, rfl, fun _ => hm'.1⟩

theorem inner_facts {s : ByteArray} {g : Sc} (h : Iv s g) (l : List UInt8) (least : Nat) :
    Iv s (inner s g l least).2 ∧ g.at_ ≤ (inner s g l least).2.at_ ∧ (inner s g l least).1 < 256 ∧ (inner s g l least).2.t = g.t ∧ (inner s g l least).2.op = g.op ∧
    ((inner s g l least).2.bad < 0 → g.bad < 0 ∧ g.at_ < (inner s g l least).2.at_) := by
  have hb := byteAt_lt s g.at_
  have hw := wr_bad g
  unfold inner
  cases hm : moreB s g
  · simp only [if_true]; exact ⟨h.wr, by rw [wr_at]; exact Nat.le_refl _, by omega, wr_t _, wr_op _, fun h' => absurd h' (by omega)⟩
  · have hm' := moreB_true.1 hm
    simp only [Bool.true_eq_false, if_false]
    split
    · split
      · exact ⟨h.wr, by rw [wr_at]; exact Nat.le_refl _, by omega, wr_t _, wr_op _, fun h' => absurd h' (by simp only; omega)⟩
      · split
        · exact ⟨h.wr, by rw [wr_at]; exact Nat.le_refl _, by omega, wr_t _, wr_op _, fun h' => absurd h' (by simp only; omega)⟩
        · exact ⟨h.adv hm'.2, by rw [adv_at]; omega, hb, rfl, rfl, fun _ => ⟨hm'.1, by rw [adv_at]; omega⟩⟩
    · split
      · exact ⟨h.wr, by rw [wr_at]; exact Nat.le_refl _, by omega, wr_t _, wr_op _, fun h' => absurd h' (by simp only; omega)⟩
      · obtain ⟨i1, i2, i3, i4, i5, i6⟩ := inner2_facts (h.adv hm'.2) least
        rw [adv_at] at i2
        exact ⟨i1, by omega, i3, i4, i5, fun h' => ⟨i6 h', by omega⟩⟩

def barC : List UInt8 := [10, 93, 45]
def barL : List UInt8 := [10, 39]

/-- The ranges of a class: a round. -/
def setR (s : ByteArray) (g : Sc) : (Nat × Nat) × Sc :=
  if pk s (inner s g barC 0).2 = 45 then (((inner s g barC 0).1, (inner s (adv (inner s g barC 0).2) barC (inner s g barC 0).1).1), (inner s (adv (inner s g barC 0).2) barC (inner s g barC 0).1).2)
  else (((inner s g barC 0).1, (inner s g barC 0).1), (inner s g barC 0).2)
def setF (s : ByteArray) : Nat → Bool → Sc → List (Nat × Nat) × Sc
  | 0, _, g => ([], g)
  | f + 1, first, g =>
    if g.bad < 0 ∧ (first = true ∨ pk s g ≠ 93) then ((setR s g).1 :: (setF s f false (setR s g).2).1, (setF s f false (setR s g).2).2)
    else ([], g)

theorem setR_facts {s : ByteArray} {g : Sc} (h : Iv s g) : Iv s (setR s g).2 ∧ g.at_ ≤ (setR s g).2.at_ ∧ (setR s g).1.1 < 256 ∧ (setR s g).1.2 < 256 ∧ (setR s g).2.t = g.t ∧ (setR s g).2.op = g.op ∧
    ((setR s g).2.bad < 0 → g.bad < 0 ∧ g.at_ < (setR s g).2.at_) := by
  obtain ⟨i1, i2, i3, i4, i5, i6⟩ := inner_facts h barC 0
  unfold setR
  split
  · next h45 =>
    obtain ⟨p1, p2, p3⟩ := pk_pos (s := s) (g := (inner s g barC 0).2) (by omega)
    obtain ⟨j1, j2, j3, j4, j5, j6⟩ := inner_facts (i1.adv p2) barC (inner s g barC 0).1
    rw [adv_at] at j2
    exact ⟨j1, by simp only; omega, i3, j3, by simp only; rw [j4, adv_t, i4], by simp only; rw [j5, adv_op, i5], fun h' => ⟨(i6 p1).1, by simp only; omega⟩⟩
  · exact ⟨i1, i2, i3, i3, i4, i5, i6⟩

/-- How many rounds may still come. -/
def rk (s : ByteArray) (g : Sc) : Nat := if g.bad < 0 then s.size + 1 - g.at_ else 0
theorem rk_lt {s : ByteArray} {g g' : Sc} (h : Iv s g) (hb : g.bad < 0) (hp : g'.bad < 0 → g.at_ < g'.at_) : rk s g' < rk s g := by
  unfold rk
  rw [if_pos hb]
  have := h.1 hb
  split
  · next h' => have := hp h'; omega
  · omega
theorem rk_le (s : ByteArray) (g : Sc) : rk s g ≤ s.size + 1 := by unfold rk; split <;> omega

end Go.Proofs.Ytagklnaaoclmhaa
