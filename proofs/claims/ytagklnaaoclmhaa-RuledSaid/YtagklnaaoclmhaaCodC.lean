import Derived.Test.YtagklnaaoclmhaaCodA
import Derived.Lib.Bytealg
set_option linter.unusedSimpArgs false
set_option linter.unusedVariables false
namespace Go.Proofs.Ytagklnaaoclmhaa
open Go.RowKit

theorem indexByte_in : ∀ (l : List UInt8) (c : UInt8), (0 ≤ Lib.indexByte l c ↔ inB l c.toNat = true)
  | [], c => by simp [Lib.indexByte, inB]
  | b :: l, c => by
    have ih := indexByte_in l c
    have hg := Lib.indexByte_ge l c
    unfold Lib.indexByte
    by_cases h : b = c
    · subst h; simp [inB]
    · have h2 : (b == c) = false := beq_eq_false_iff_ne.2 h
      have h3 : (b.toNat == c.toNat) = false := beq_eq_false_iff_ne.2 (fun e => h (UInt8.toNat_inj.1 e))
      rw [if_neg (by simp [h2])]
      have h4 : inB (b :: l) c.toNat = inB l c.toNat := by simp [inB, h3]
      rw [h4, ← ih]
      by_cases h5 : Lib.indexByte l c = -1
      · rw [h5]; simp
      · rw [if_neg (by simpa using h5)]; omega

set_option maxHeartbeats 800000 in
theorem indexByte_any (s : ByteArray) (c : Nat) (w : World) (hs : s.size ≤ 1000) (hc : c < 256) :
    Calls Try.prog 74 #[.string s, .int .u8 (c : Int)] w fun e w' => ∃ i : Int, e = .returned (.int .i64 i) ∧ (0 ≤ i ↔ inB s.data.toList c = true) ∧ w' = w := by
  have h1 := indexByte_in s.data.toList c.toUInt8
  rw [show c.toUInt8.toNat = c by simp [Nat.toUInt8]; omega] at h1
  go_enter Try.func74, Try.ntmps74
  go_wp2_with fail
  go_wp2
  rw [run_callFunc_extern Try.func77 (by kernel_rfl) (by kernel_rfl) (by kernel_rfl) (e := Extern.BytealgIndexByte.indexByte) (by kernel_rfl), Lib.run_indexByteString]
  simp only [Result.andThen]
  rw [Oper.upon_value]
  go_wp2
  go_ret
  exact ⟨_, rfl, h1, rfl⟩

theorem inB_esc (c : Nat) : inB esc c = mnB (c : Int) := by
  unfold inB esc mnB
  rw [Bool.eq_iff_iff]
  simp
  omega
theorem nx_lt {s : ByteArray} {a : Nat} (h : a < s.size) : nx s a = (byteAt s a : Int) := by unfold nx; rw [if_neg (by omega)]
theorem wr_eq {g : Sc} (h : g.bad < 0) : wr g = { g with bad := g.at_ } := by unfold wr; rw [if_pos h]
theorem mnV_eq {c : Nat} (h : mnB (c : Int) = true) : mnV (c : Int) = ((if c = 110 then 10 else c : Nat) : Int) := by
  unfold mnV
  by_cases hc : c = 110
  · rw [if_pos (by omega), if_pos hc]; rfl
  · rw [if_neg (by omega), if_neg hc, if_pos h]

def escX (s : ByteArray) (g : Sc) (least : Nat) : Nat × Sc := if 93 < least then (0, wr g) else inner2 s (adv g) least

set_option maxHeartbeats 800000 in
theorem escaped_any (b : Nat) (s : ByteArray) (mv : Value) (g : Sc) (least : Nat) (w : World) (hR : Ris w b s mv g) (hs : s.size ≤ 400) (hb : g.bad < 0) (hm : g.at_ < s.size) (h92 : byteAt s g.at_ = 92) (hl : least < 256) :
    Calls Try.prog 73 #[.pointer (some ⟨b, 0, none⟩), .int .u8 (least : Int)] w fun e w' => e = .returned (.tuple #[.int .u8 ((escX s g least).1 : Int), .bool (decide ((escX s g least).2.bad < 0))]) ∧ Ris w' b s mv (escX s g least).2 ∧ Kept (· = b) w w' := by
  by_cases hl2 : 93 < least
  · have HX : Hid (escX s g least = (0, { g with bad := g.at_ })) := by unfold Hid escX; rw [if_pos hl2, wr_eq hb]
    go_enter Try.func73, Try.ntmps73
    go_wp2
    go_ret2
    exact ⟨by rw [HX.out]; simp [show ¬ ((g.at_ : Int) < 0) by omega], by rw [HX.out]; exact hR.bad _, Kept.refl _ _⟩
  · have HX : Hid (escX s g least = inner2 s (adv g) least) := by unfold Hid escX; rw [if_neg hl2]
    have hT : tkB s g 92 = true := by unfold tkB; rw [nx_lt hm, h92]; rfl
    have hT2 : tk s g 92 = adv g := by unfold tk; rw [hT]; rfl
    go_enter Try.func73, Try.ntmps73
    go_wp2_with fail
    refine (take_any b s mv g 92 _ hR hs (by omega) (by decide)).mono ?_
    rintro e w1 ⟨rfl, hR1, hK1⟩
    rw [hT2] at hR1
    rw [hT]
    clear hT hT2 h92
    go_wp2_with fail
    refine (next_any b s mv (adv g) _ hR1 hs (by rw [adv_at]; omega)).mono ?_
    rintro e w2 ⟨rfl, n, rfl⟩
    go_wp2_with fail
    refine (meaning_any _ _).mono ?_
    rintro e w2 ⟨rfl, rfl⟩
    have hR2 := hR1.drewN n
    obtain ⟨c0, c1, c2, c3, c4⟩ := hR2.cells
    have hf := hR2.frozen 1
    have hat : (adv g).at_ ≤ s.size := by rw [adv_at]; omega
    have hbad : (adv g).bad < 0 := hb
    by_cases hq : mnB (nx s (adv g).at_) = true
    · have hlt : (adv g).at_ < s.size := by
        by_cases h : (adv g).at_ = s.size
        · exfalso; revert hq; unfold nx; rw [if_pos h]; decide
        · omega
      have hmore : moreB s (adv g) = true := moreB_true.2 ⟨hb, hlt⟩
      rw [nx_lt hlt] at hq ⊢
      have hv := mnV_eq hq
      rw [hv, hq]
      have hin : inner2 s (adv g) least = if (if byteAt s (adv g).at_ = 110 then 10 else byteAt s (adv g).at_) < least then (0, wr (adv g)) else ((if byteAt s (adv g).at_ = 110 then 10 else byteAt s (adv g).at_), adv (adv g)) := by
        unfold inner2; rw [hmore, inB_esc, hq]; rfl
      have hv2 : (if byteAt s (adv g).at_ = 110 then 10 else byteAt s (adv g).at_) < 256 := by
        have := byteAt_lt s (adv g).at_
        split <;> omega
      clear hv hq
      generalize (if byteAt s (adv g).at_ = 110 then 10 else byteAt s (adv g).at_) = v at *
      by_cases hv3 : v < least
      · rw [if_pos hv3, wr_eq hbad] at hin
        have HX2 := hide (HX.out.trans hin)
        clear hin HX
        go_wp2
        go_ret2
        exact ⟨by rw [HX2.out]; simp [show ¬ (((adv g).at_ : Int) < 0) by omega], by rw [HX2.out]; exact hR2.bad _, hK1.drewN _⟩
      · rw [if_neg hv3] at hin
        have HX2 := hide (HX.out.trans hin)
        clear hin HX
        go_wp2
        go_ret2
        exact ⟨by rw [HX2.out]; simp [show ((adv (adv g)).bad < 0) from hb], by rw [HX2.out]; exact hR2.setAt _, (hK1.drewN _).setCell (fun _ => rfl) _⟩
    · have hq' : mnB (nx s (adv g).at_) = false := by simpa using hq
      have hin : inner2 s (adv g) least = (0, wr (adv g)) := by
        unfold inner2
        cases hm2 : moreB s (adv g)
        · rfl
        · have hlt := (moreB_true.1 hm2).2
          rw [nx_lt hlt, ← inB_esc] at hq'
          rw [hq']; rfl
      rw [wr_eq hbad] at hin
      have HX2 := hide (HX.out.trans hin)
      rw [hq']
      clear hin HX hq
      generalize mnV (nx s (adv g).at_) = v at *
      go_wp2
      go_ret2
      exact ⟨by rw [HX2.out]; simp [show ¬ (((adv g).at_ : Int) < 0) by omega], by rw [HX2.out]; exact hR2.bad _, hK1.drewN _⟩

set_option maxHeartbeats 800000 in
theorem byteFrom_any (b : Nat) (s bs : ByteArray) (mv : Value) (g : Sc) (least : Nat) (w : World) (hR : Ris w b s mv g) (hs : s.size ≤ 400) (ha : g.at_ ≤ s.size) (hb : g.bad < 0) (hl : least < 256) (hbs : bs.size ≤ 1000) :
    Calls Try.prog 71 #[.pointer (some ⟨b, 0, none⟩), .int .u8 (least : Int), .string bs] w fun e w' => e = .returned (.tuple #[.int .u8 ((inner s g bs.data.toList least).1 : Int), .bool (decide ((inner s g bs.data.toList least).2.bad < 0))]) ∧ Ris w' b s mv (inner s g bs.data.toList least).2 ∧ Kept (· = b) w w' := by
  by_cases hm : g.at_ = s.size
  · have HX : Hid (inner s g bs.data.toList least = (0, { g with bad := g.at_ })) := by
      unfold Hid inner; rw [if_pos (by unfold moreB; simp; omega), wr_eq hb]
    have HN : nx s g.at_ = -1 := by unfold nx; rw [if_pos hm]
    go_enter Try.func71, Try.ntmps71
    go_wp2_with fail
    refine (next_any b s mv g _ hR hs ha).mono ?_
    rintro e w2 ⟨rfl, n, rfl⟩
    rw [HN]
    clear HN hm
    go_wp2
    go_ret2
    exact ⟨by rw [HX.out]; simp [show ¬ ((g.at_ : Int) < 0) by omega], by rw [HX.out]; exact (hR.drewN n).bad _, (Kept.refl _ _).drewN _⟩
  · have hlt : g.at_ < s.size := by omega
    have hmore : moreB s g = true := moreB_true.2 ⟨hb, hlt⟩
    have HN := nx_lt hlt
    have hv := byteAt_lt s g.at_
    by_cases h92 : byteAt s g.at_ = 92
    · have HX : Hid (inner s g bs.data.toList least = escX s g least) := by
        unfold Hid inner escX; rw [hmore, if_neg (by simp), if_neg (by simp [h92])]
      go_enter Try.func71, Try.ntmps71
      go_wp2_with fail
      refine (next_any b s mv g _ hR hs ha).mono ?_
      rintro e w2 ⟨rfl, n, rfl⟩
      rw [HN, h92]
      clear HN hm
      go_wp2_with fail
      refine (escaped_any b s mv g least _ (hR.drewN n) hs hb hlt h92 hl).mono ?_
      rintro e w3 ⟨rfl, hR3, hK3⟩
      go_wp2
      go_ret2
      exact ⟨by rw [HX.out]; rfl, by rw [HX.out]; exact hR3, ((Kept.refl _ _).drewN _).trans hK3⟩
    · have hin : inner s g bs.data.toList least = if inB bs.data.toList (byteAt s g.at_) = true then (0, wr g) else if byteAt s g.at_ < least then (0, wr g) else (byteAt s g.at_, adv g) := by
        unfold inner; rw [hmore, if_neg (by simp), if_pos h92]
      go_enter Try.func71, Try.ntmps71
      go_wp2_with fail
      refine (next_any b s mv g _ hR hs ha).mono ?_
      rintro e w2 ⟨rfl, n, rfl⟩
      rw [HN]
      have hR2 := hR.drewN n
      obtain ⟨c0, c1, c2, c3, c4⟩ := hR2.cells
      have hf := hR2.frozen 1
      clear HN hm
      generalize byteAt s g.at_ = c at *
      have q1 : ((c : Int) == -1) = false := beq_eq_false_iff_ne.2 (by omega)
      have q2 : ((c : Int) == 92) = false := beq_eq_false_iff_ne.2 (by omega)
      by_cases h3 : c < least
      · have HX : Hid (inner s g bs.data.toList least = (0, { g with bad := g.at_ })) := by
          unfold Hid; rw [hin, if_pos h3, ite_self, wr_eq hb]
        clear hin
        go_wp2
        go_ret2
        exact ⟨by rw [HX.out]; simp [show ¬ ((g.at_ : Int) < 0) by omega], by rw [HX.out]; exact hR2.bad _, (Kept.refl _ _).drewN _⟩
      · rw [if_neg h3] at hin
        go_wp2_with fail
        refine (indexByte_any bs c _ hbs hv).mono ?_
        rintro e w3 ⟨i, rfl, hi, rfl⟩
        cases h4 : inB bs.data.toList c
        · rw [h4] at hin hi
          have HX : Hid (inner s g bs.data.toList least = (c, adv g)) := hin
          have hi2 : i < 0 := by
            by_cases h : 0 ≤ i
            · exact absurd (hi.1 h) (by simp)
            · omega
          clear hin hi
          go_wp2
          go_ret2
          exact ⟨by rw [HX.out]; simp [show ((adv g).bad < 0) from hb], by rw [HX.out]; exact hR2.setAt _, ((Kept.refl (· = b) w).drewN _).setCell (fun _ => rfl) _⟩
        · rw [h4] at hin hi
          have HX : Hid (inner s g bs.data.toList least = (0, { g with bad := g.at_ })) := by
            unfold Hid; rw [hin, if_pos rfl, wr_eq hb]
          have hi2 : 0 ≤ i := hi.2 rfl
          clear hin hi
          go_wp2
          go_ret2
          exact ⟨by rw [HX.out]; simp [show ¬ ((g.at_ : Int) < 0) by omega], by rw [HX.out]; exact hR2.bad _, (Kept.refl _ _).drewN _⟩

end Go.Proofs.Ytagklnaaoclmhaa
