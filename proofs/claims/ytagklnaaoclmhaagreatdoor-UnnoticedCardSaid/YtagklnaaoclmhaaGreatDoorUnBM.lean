import Derived.Test.YtagklnaaoclmhaaGreatDoorUnAM
set_option linter.unusedSimpArgs false
set_option linter.unusedVariables false
namespace Go.Proofs.YtagklnaaoclmhaaGreatDoor
open Go.RowKit

set_option maxRecDepth 100000 in
set_option maxHeartbeats 12800000 in
theorem unnoticed_any (G s : ByteArray) (hG : G.size ≤ maxLen) (hs : s.size ≤ maxLen) (c d r : Int) (hc1 : -9223372036854775808 ≤ c) (hc2 : c ≤ 9223372036854775807) (hd1 : -9223372036854775808 ≤ d) (hd2 : d ≤ 9223372036854775807) (hr1 : -9223372036854775808 ≤ r) (hr2 : r ≤ 9223372036854775807) (w : World) (hT : Tab w) :
    Calls Tryz.prog 9 #[.string G, .string s, .int .i64 c, .int .i64 d, .int .i64 r] w fun e w' => e = .returned (.bool true) ∧ Kept (fun _ => False) w w' := by
  have hpk := pkI_bd (c := r) (n := 20000) (by decide)
  have hcf1 := fun W => config_any c r hc1 hc2 hr1 hr2 W
  have hcf2 := fun W => config_any d r hd1 hd2 hr1 hr2 W
  obtain ⟨R, hR⟩ : ∃ R, R = 1 + pkI r 20000 := ⟨_, rfl⟩
  rw [← hR] at hcf1 hcf2
  have hRb : 1 ≤ R ∧ R ≤ 20000 := by omega
  clear hR hpk
  have hop := fun p b m W => open_any G hG p b m R W
  have Hok : Hid ((refChk G).1 = 0 → ∃ D : Pd, ∀ (w : World) (pb : Nat) (c : Cf) (base a b d e : Nat), Psr w pb G c base a b d e → c.runs = R.toNat → Tab w →
    Calls Tryz.prog 19 #[.pointer (some ⟨pb, 0, none⟩), .string s] w fun e' w' => PdOut D G c pb base w e' w') := fun h => parse_d (refChk_ok h) hs R.toNat (by omega)
  obtain ⟨E, hE⟩ : ∃ E, E = (refChk G).1 := ⟨_, rfl⟩
  rw [← hE] at hop Hok
  clear hE
  have hsp := spare_any w hT
  go_enter Tryz.func9, Tryz.ntmps9
  go_wp2_with fail
  refine hsp.mono ?_
  rintro e w1 ⟨rfl, K01⟩
  clear hsp
  go_wp2_with fail
  refine (hcf1 _).mono ?_
  rintro e w2 ⟨⟨cs1, rfl, ⟨p1, b1, m1, rfl, q1, q2, q3, q4, q5, q6⟩⟩, K12⟩
  obtain ⟨w3, hw3⟩ : ∃ w3, w3 = w2.alloc (.cells #[.int .i64 p1, .int .i64 b1, .int .i64 m1, .int .i64 R] 23) := ⟨_, rfl⟩
  have K23 : Kept (fun _ => False) w2 w3 := by rw [hw3]; exact (Kept.refl _ w2).alloc _
  have hb3 : w3.heap[w2.heap.size]? = some (.cells #[.int .i64 p1, .int .i64 b1, .int .i64 m1, .int .i64 R] 23 (0, 0)) := by rw [hw3]; exact heap_alloc_new _ _
  go_wp2_with fail
  rw [← hw3]
  clear hw3 hcf1
  refine (hcf2 _).mono ?_
  rintro e w4 ⟨⟨cs2, rfl, ⟨p2, b2, m2, rfl, r1, r2, r3, r4, r5, r6⟩⟩, K34⟩
  obtain ⟨w5, hw5⟩ : ∃ w5, w5 = w4.alloc (.cells #[.int .i64 p2, .int .i64 b2, .int .i64 m2, .int .i64 R] 23) := ⟨_, rfl⟩
  have K45 : Kept (fun _ => False) w4 w5 := by rw [hw5]; exact (Kept.refl _ w4).alloc _
  have hd5 : w5.heap[w4.heap.size]? = some (.cells #[.int .i64 p2, .int .i64 b2, .int .i64 m2, .int .i64 R] 23 (0, 0)) := by rw [hw5]; exact heap_alloc_new _ _
  have hb5 := (K34.trans K45).blk hb3 (fun x => x)
  have K05 : Kept (fun _ => False) w w5 := (((K01.trans K12).trans K23).trans K34).trans K45
  have HT5 := hide (hT.kept K05 (fun x => x))
  obtain ⟨a0, a1, a2, a3⟩ := cells4 hb5
  rw [hw5] at a0 a1 a2 a3
  have HC1 : Hid (CfM p1 b1 m1 R) := ⟨⟨q1, q2⟩, ⟨q3, by omega⟩, ⟨q5, q6⟩, hRb⟩
  have HC2 : Hid (CfM p2 b2 m2 R) := ⟨⟨r1, r2⟩, ⟨r3, by omega⟩, ⟨r5, r6⟩, hRb⟩
  have hz1 : w2.heap.size < w5.heap.size := objAt_lt (show objAt w5 w2.heap.size = _ from hb5)
  have hz2 : w4.heap.size < w5.heap.size := objAt_lt (show objAt w5 w4.heap.size = _ from hd5)
  clear hcf2 hb3 K01 K12 K23 K34 K45
  go_wp2_with fail
  rw [← hw5]
  clear hw5 a0 a1 a2 a3
  refine (hop p1 b1 m1 w5).mono ?_
  intro e w6 hO1
  have K56 := hO1.kept
  have hd6 := K56.blk hd5 (fun x => x)
  have hb6 := K56.blk hb5 (fun x => x)
  obtain ⟨a0, a1, a2, a3⟩ := cells4 hd6
  by_cases hE0 : E = 0
  · obtain ⟨pb1, rfl, P1⟩ := hO1.ok hE0 HC1.out
    have HP1 := hide P1
    clear hO1 P1
    go_wp2_with fail
    refine (hop p2 b2 m2 w6).mono ?_
    intro e w7 hO2
    have K67 := hO2.kept
    obtain ⟨pb2, rfl, P2⟩ := hO2.ok hE0 HC2.out
    obtain ⟨D, hD⟩ := Hok.out hE0
    have hb7 := K67.blk hb6 (fun x => x)
    have hd7 := K67.blk hd6 (fun x => x)
    have P17 := HP1.out.same K67
    have hl1 := P17.low
    have hl2 := P2.low
    have hl3 := HP1.out.lt
    have hl4 := P2.lt
    have hT7 : Tab w7 := HT5.out.kept (K56.trans K67) (fun x => x)
    have hpar1 := hD w7 pb1 _ _ _ _ _ _ P17 rfl hT7
    have n1 : ¬ w2.heap.size = pb1 := by omega
    have n2 : ¬ w4.heap.size = pb1 := by omega
    have n3 : ¬ w2.heap.size = pb2 := by omega
    have n4 : ¬ w4.heap.size = pb2 := by have := K56.size; omega
    have n5 : pb2 ≠ pb1 := by omega
    have HP2 := hide P2
    have HP17 := hide P17
    have HT7 := hide hT7
    have HK57 := hide (K56.trans K67)
    clear hO2 a0 a1 a2 a3 hop K56 K67 P2 P17 hT7 HP1
    go_wp2_with fail
    refine hpar1.mono ?_
    intro e w8 hZ1
    obtain ⟨v1, rfl, hA1⟩ := hZ1.res
    have K78 := hZ1.kept
    obtain ⟨L1, h1, d1, hL1, PA⟩ := hZ1.ps
    obtain ⟨tp1, tk1, fp1, fk1, rfl, _, _⟩ := hA1.ex
    obtain ⟨w9, hw9⟩ : ∃ w9, w9 = w8.alloc (.cells #[.bool D.B, .int .i64 D.T, .slice tp1 D.nt tk1, .int .i64 D.F, .slice fp1 D.nf fk1] 31) := ⟨_, rfl⟩
    have K89 : Kept (fun _ => False) w8 w9 := by rw [hw9]; exact (Kept.refl _ w8).alloc _
    have hx9 : w9.heap[w8.heap.size]? = some (.cells #[.bool D.B, .int .i64 D.T, .slice tp1 D.nt tk1, .int .i64 D.F, .slice fp1 D.nf fk1] 31 (0, 0)) := by rw [hw9]; exact heap_alloc_new _ _
    have K79 : Kept (fun k => k = pb1) w7 w9 := K78.then K89 (fun _ _ x => x.elim)
    have PA9 := PA.same K89
    have PB9 := HP2.out.other HP17.out n5 K79
    have hT9 : Tab w9 := HT7.out.kept K79 (HP17.out.ne0 HT7.out)
    have hb9 := K79.blk hb7 n1
    have hd9 := K79.blk hd7 n2
    have hA9 := hA1.kept K89
    have hpar2 := hD w9 pb2 _ _ _ _ _ _ PB9 rfl hT9
    have n6 : ¬ w8.heap.size = pb2 := by have := K78.size; omega
    have HPB := hide PB9
    have HPA := hide PA9
    have HA9 := hide hA9
    have HT9 := hide hT9
    have HK59 : Hid (Kept (fun k => k = pb1) w5 w9) := (HK57.out.mono (fun _ _ x => x.elim)).trans K79
    clear hpar1 hZ1 K78 K89 K79 PA PA9 PB9 hA1 hA9 hT9 hb7 hd7 HP2 HP17 HT7 HK57
    go_wp2_with fail
    rw [← hw9]
    clear hw9
    refine hpar2.mono ?_
    intro e w10 hZ2
    obtain ⟨v2, rfl, hA2⟩ := hZ2.res
    have K90 := hZ2.kept
    obtain ⟨L2, h2, d2, hL2, PB⟩ := hZ2.ps
    obtain ⟨tp2, tk2, fp2, fk2, rfl, _, _⟩ := hA2.ex
    obtain ⟨w11, hw11⟩ : ∃ w11, w11 = w10.alloc (.cells #[.bool D.B, .int .i64 D.T, .slice tp2 D.nt tk2, .int .i64 D.F, .slice fp2 D.nf fk2] 31) := ⟨_, rfl⟩
    have K01 : Kept (fun _ => False) w10 w11 := by rw [hw11]; exact (Kept.refl _ w10).alloc _
    have hy11 : w11.heap[w10.heap.size]? = some (.cells #[.bool D.B, .int .i64 D.T, .slice tp2 D.nt tk2, .int .i64 D.F, .slice fp2 D.nf fk2] 31 (0, 0)) := by rw [hw11]; exact heap_alloc_new _ _
    have K91 : Kept (fun k => k = pb2) w9 w11 := K90.then K01 (fun _ _ x => x.elim)
    have PB11 := PB.same K01
    have PA11 := HPA.out.other HPB.out (fun e => n5 e.symm) K91
    have hb11 := K91.blk hb9 n3
    have hd11 := K91.blk hd9 n4
    have hx11 := K91.blk hx9 n6
    have HA11 := hide (HA9.out.other HPB.out K91)
    have HA2 := hide (hA2.kept K01)
    have HPB11 := hide PB11
    have HK511 : Hid (Kept (fun k => k = pb1 ∨ k = pb2) w5 w11) := (HK59.out.mono (fun _ _ x => Or.inl x)).trans (K91.mono (fun _ _ x => Or.inr x))
    have hst1 := stats_of PA11
    clear hpar2 hZ2 K90 K01 K91 PA11 PB11 hA2 PB hb9 hd9 hx9 HA9 HPA HPB HT9 HK59 hD
    go_wp2_with fail
    rw [← hw11]
    clear hw11
    refine hst1.mono ?_
    rintro e w12 ⟨rfl, K12⟩
    obtain ⟨w13, hw13⟩ : ∃ w13, w13 = w12.alloc (.cells #[.int .i64 (L1 : Int), .int .i64 (L1 : Int), .int .i64 (h1 : Int), .int .i64 (d1 : Int)] 73) := ⟨_, rfl⟩
    have K13' : Kept (fun _ => False) w12 w13 := by rw [hw13]; exact (Kept.refl _ w12).alloc _
    have K13 := K12.trans K13'
    have hs13 : w13.heap[w12.heap.size]? = some (.cells #[.int .i64 (L1 : Int), .int .i64 (L1 : Int), .int .i64 (h1 : Int), .int .i64 (d1 : Int)] 73 (0, 0)) := by rw [hw13]; exact heap_alloc_new _ _
    have hst2 := stats_of (HPB11.out.same K13)
    go_wp2_with fail
    rw [← hw13]
    clear hw13 hst1
    refine hst2.mono ?_
    rintro e w14 ⟨rfl, K14⟩
    obtain ⟨w15, hw15⟩ : ∃ w15, w15 = w14.alloc (.cells #[.int .i64 (L2 : Int), .int .i64 (L2 : Int), .int .i64 (h2 : Int), .int .i64 (d2 : Int)] 73) := ⟨_, rfl⟩
    have K15' : Kept (fun _ => False) w14 w15 := by rw [hw15]; exact (Kept.refl _ w14).alloc _
    have K1315 := K14.trans K15'
    have K1115 := K13.trans K1315
    have ht15 : w15.heap[w14.heap.size]? = some (.cells #[.int .i64 (L2 : Int), .int .i64 (L2 : Int), .int .i64 (h2 : Int), .int .i64 (d2 : Int)] 73 (0, 0)) := by rw [hw15]; exact heap_alloc_new _ _
    have hs15 := K1315.blk hs13 (fun x => x)
    have hb15 := K1115.blk hb11 (fun x => x)
    have hd15 := K1115.blk hd11 (fun x => x)
    have hx15 := K1115.blk hx11 (fun x => x)
    have hy15 := K1115.blk hy11 (fun x => x)
    have hsame := same_any (HA11.out.kept K1115) (HA2.out.kept K1115)
    have HK015 : Hid (Kept (fun k => k = pb1 ∨ k = pb2) w5 w15) := HK511.out.then K1115 (fun _ _ x => x.elim)
    obtain ⟨x0, x1, x2, x3, x4⟩ := cells5 hx15
    obtain ⟨y0, y1, y2, y3, y4⟩ := cells5 hy15
    rw [hw15] at x0 x1 x2 x3 x4 y0 y1 y2 y3 y4
    clear hst2 K12 K13' K13 K14 K15' K1315 K1115 hs13 hb11 hd11 hx11 hy11 HA11 HA2 HPB11 HK511
    go_wp2_with fail
    rw [← hw15]
    clear hw15 x0 x1 x2 x3 x4 y0 y1 y2 y3 y4
    refine hsame.mono ?_
    rintro e w16 ⟨rfl, K16⟩
    obtain ⟨i0, i1, _, _⟩ := cells4 (K16.blk hb15 (fun x => x))
    obtain ⟨j0, j1, _, _⟩ := cells4 (K16.blk hd15 (fun x => x))
    obtain ⟨k0, k1, _, _⟩ := cells4 (K16.blk hs15 (fun x => x))
    obtain ⟨l0, l1, _, _⟩ := cells4 (K16.blk ht15 (fun x => x))
    have hL1' : L1 ≤ b1.toNat := hL1
    have hL2' : L2 ≤ b2.toNat := hL2
    have g1 : decide ((L1 : Int) ≤ b1) = true := decide_eq_true (by omega)
    have g2 : decide ((L2 : Int) ≤ b2) = true := decide_eq_true (by omega)
    have HKF : Hid (Kept (fun _ => False) w w16) := ((((K05.mono (fun _ _ x => x.elim)).trans HK015.out).trans (K16.mono (fun _ _ x => x.elim)))).mono (fun k hk e => by have := K05.size; rcases e with e | e <;> omega)
    clear hsame K16 hb15 hd15 hs15 ht15 hx15 hy15 HK015
    go_wp2
    go_ret
    exact ⟨by simp, HKF.out⟩
  · have he := hO1.bad hE0
    subst he
    have HK6 : Hid (Kept (fun _ => False) w w6) := K05.trans K56
    clear hO1 Hok
    go_wp2_with fail
    refine (hop p2 b2 m2 w6).mono ?_
    intro e w7 hO2
    have HK7 : Hid (Kept (fun _ => False) w w7) := HK6.out.trans hO2.kept
    have he := hO2.bad hE0
    subst he
    have hE1 : (E == 0) = false := by simpa using hE0
    have hE2 : (E != 0) = true := by simp [bne, hE1]
    clear hO2 hop
    go_wp2
    go_ret
    exact ⟨rfl, HK7.out⟩
end Go.Proofs.YtagklnaaoclmhaaGreatDoor
