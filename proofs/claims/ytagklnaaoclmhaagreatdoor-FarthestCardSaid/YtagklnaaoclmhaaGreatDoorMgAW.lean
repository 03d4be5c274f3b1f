import Derived.Test.YtagklnaaoclmhaaGreatDoorMgAV
set_option linter.unusedSimpArgs false
set_option linter.unusedVariables false
namespace Go.Proofs.YtagklnaaoclmhaaGreatDoor
open Go.RowKit
theorem lvs_drop {L : List Nod} {i : Nat} (h : i < L.length) : lvs (L.drop i) = (if (gN L i).rule = 3 then [((gN L i).from_, (gN L i).to)] else []) ++ lvs (L.drop (i + 1)) := by
  rw [List.drop_eq_getElem_cons h]
  have e : gN L i = L[i] := by simp [gN, List.getElem?_eq_getElem h]
  rw [e]
  unfold lvs
  by_cases hr : L[i].rule = 3
  · rw [List.filter_cons_of_pos (by simp [hr]), if_pos hr]; rfl
  · rw [List.filter_cons_of_neg (by simp [hr]), if_neg hr]; rfl
theorem dig_byte {s : ByteArray} {k : Nat} (h : k < s.size) : Dig (byteAt s) s.size k ↔ (48 ≤ s[k].toNat ∧ s[k].toNat ≤ 57) := by
  unfold Dig
  rw [byteAt_get h]
  exact ⟨fun x => x.2, fun x => ⟨h, x⟩⟩
set_option maxRecDepth 100000 in
set_option maxHeartbeats 1600000 in
theorem leaves_any (g : Nat) (cap : Nat) (L : List Nod) (s : ByteArray) (w : World) (hT : TrAt w g L) (hl : L.length ≤ 1000000) (hs : s.size ≤ 1000) (hC : Cov (byteAt s) s.size 0 s.size (lvs L)) :
    Calls Tryz.prog 26 #[.slice (some ⟨g, 0, none⟩) L.length cap, .string s] w fun e w' => e = .returned (.bool true) ∧ ∃ n, w' = w.drewN n := by
  have HT := hide hT.at_
  have HC := hide hC
  clear hT hC
  go_enter Tryz.func26, Tryz.ntmps26
  go_wp2
  go_loopg [5, 6] L.length (fun n va vi wx => ∃ a i : Nat, va = .int .i64 (a : Int) ∧ vi = .int .i64 (i : Int) ∧ Hid (i + n = L.length ∧ a ≤ s.size ∧ Cov (byteAt s) s.size a s.size (lvs (L.drop i))) ∧ ∃ m, wx = w.drewN m)
  case atStart => exact ⟨0, 0, rfl, rfl, ⟨by omega, by omega, HC.out⟩, 0, rfl⟩
  case round =>
    obtain ⟨a, i, rfl, rfl, HX, m, rfl⟩ := hrel
    obtain ⟨gk', hgk⟩ : ∃ m, m = gk := ⟨gk, rfl⟩
    subst hgk
    by_cases hlt : i < L.length
    · obtain ⟨c0, c1, c2, -⟩ := HT.out i hlt
      have hD := lvs_drop hlt
      obtain ⟨N, hN⟩ : ∃ N, N = gN L i := ⟨_, rfl⟩
      rw [← hN] at c0 c1 c2 hD
      clear hN
      obtain ⟨nr, nf, nt, nd⟩ := N
      dsimp only at c0 c1 c2 hD
      have HDr := hide hD
      clear hD
      by_cases h3 : nr = 3
      · subst h3
        have H1 := HX.out
        rw [HDr.out, if_pos rfl] at H1
        obtain ⟨j1, j2, j3⟩ := H1
        generalize hrest : lvs (L.drop (i + 1)) = rest at j3
        have HR := hide hrest
        clear hrest HDr
        cases j3 with
        | cons k1 k2 k3 k4 k5 k6 =>
        have hle := k6.le
        have HK2 := hide k2
        have HK4 := hide k4
        have HK5 := hide k5
        have HK6 := hide k6
        have HJ := hide j1
        clear k2 k4 k5 k6 j1
        go_wp2
        have hnf : nf < s.size := by omega
        go_loopg [5] (nf - a) (fun n v wx => ∃ p : Nat, v = .int .i64 (p : Int) ∧ Hid (p + n = nf ∧ a ≤ p) ∧ ∃ m, wx = w.drewN m)
        case atStart => exact ⟨a, rfl, ⟨by omega, Nat.le_refl _⟩, by first | exact ⟨_, rfl⟩ | exact ⟨_, World.drewN_drewN ..⟩ | exact ⟨_, by rw [World.drewN_drewN, World.drewN_drewN]⟩ | exact ⟨_, by rw [World.drewN_drewN, World.drewN_drewN, World.drewN_drewN]⟩⟩
        case round =>
          obtain ⟨p, rfl, HP, m2, rfl⟩ := hrel
          obtain ⟨gj, hgj⟩ : ∃ m, m = gk := ⟨gk, rfl⟩
          subst hgj
          have hp : p < s.size := by have := HP.out; omega
          by_cases hpn : p < nf
          · have hdg : decide (48 ≤ s[p].toNat ∧ s[p].toNat ≤ 57) = false := decide_eq_false (fun x => HK2.out p HP.out.2 hpn ((dig_byte hp).2 x))
            have hcall := digit_any s[p]
            rw [hdg] at hcall
            have HM : Hid (gj - 1 < gj ∧ p + 1 + (gj - 1) = nf ∧ a ≤ p + 1) := by have := HP.out; unfold Hid; omega
            clear hdg hpn
            go_wp2_with fail
            refine (hcall _).mono ?_
            rintro e w5 ⟨rfl, rfl⟩
            go_wp2
            go_roundg (gj - 1)
            case measure => exact HM.out.1
            case rel => exact ⟨p + 1, by go_num, HM.out.2, by first | exact ⟨_, rfl⟩ | exact ⟨_, World.drewN_drewN ..⟩ | exact ⟨_, by rw [World.drewN_drewN, World.drewN_drewN]⟩ | exact ⟨_, by rw [World.drewN_drewN, World.drewN_drewN, World.drewN_drewN]⟩⟩
          · have hdg : decide (48 ≤ s[p].toNat ∧ s[p].toNat ≤ 57) = true := decide_eq_true ((dig_byte hp).1 (HK4.out p (by have := HP.out; omega) (by have := HP.out; omega)))
            have hcall := digit_any s[p]
            rw [hdg] at hcall
            have HPE : Hid (p = nf) := by have := HP.out; unfold Hid; omega
            clear hdg hpn
            go_wp2_with fail
            refine (hcall _).mono ?_
            rintro e w5 ⟨rfl, rfl⟩
            have hpe : p = nf := HPE.out
            clear HPE
            subst hpe
            go_wp2
            go_loopg [5] (nt - p) (fun n v wx => ∃ r : Nat, v = .int .i64 (r : Int) ∧ Hid (r + n = nt ∧ p ≤ r) ∧ ∃ m, wx = w.drewN m)
            case atStart => exact ⟨p, rfl, ⟨by omega, Nat.le_refl _⟩, by first | exact ⟨_, rfl⟩ | exact ⟨_, World.drewN_drewN ..⟩ | exact ⟨_, by rw [World.drewN_drewN, World.drewN_drewN]⟩ | exact ⟨_, by rw [World.drewN_drewN, World.drewN_drewN, World.drewN_drewN]⟩⟩
            case round =>
              obtain ⟨r, rfl, HR2, m3, rfl⟩ := hrel
              obtain ⟨gl, hgl⟩ : ∃ m, m = gk := ⟨gk, rfl⟩
              subst hgl
              by_cases hrn : r < nt
              · have hr : r < s.size := by omega
                have hdg : decide (48 ≤ s[r].toNat ∧ s[r].toNat ≤ 57) = true := decide_eq_true ((dig_byte hr).1 (HK4.out r HR2.out.2 hrn))
                have hcall := digit_any s[r]
                rw [hdg] at hcall
                have HM : Hid (gl - 1 < gl ∧ r + 1 + (gl - 1) = nt ∧ p ≤ r + 1) := by have := HR2.out; unfold Hid; omega
                clear hdg hrn
                go_wp2_with fail
                refine (hcall _).mono ?_
                rintro e w5 ⟨rfl, rfl⟩
                go_wp2
                go_roundg (gl - 1)
                case measure => exact HM.out.1
                case rel => exact ⟨r + 1, by go_num, HM.out.2, by first | exact ⟨_, rfl⟩ | exact ⟨_, World.drewN_drewN ..⟩ | exact ⟨_, by rw [World.drewN_drewN, World.drewN_drewN]⟩ | exact ⟨_, by rw [World.drewN_drewN, World.drewN_drewN, World.drewN_drewN]⟩⟩
              · have hre : r = nt := by have := HR2.out; omega
                subst hre
                have HZ : Hid (gk' - 1 < gk' ∧ i + 1 + (gk' - 1) = L.length ∧ r ≤ s.size ∧ Cov (byteAt s) s.size r s.size (lvs (L.drop (i + 1)))) := ⟨by have := HJ.out; omega, by have := HJ.out; omega, hle, by rw [HR.out]; exact HK6.out⟩
                clear hrn
                by_cases hr : r < s.size
                · have hdg : decide (48 ≤ s[r].toNat ∧ s[r].toNat ≤ 57) = false := decide_eq_false (fun x => HK5.out ((dig_byte hr).2 x))
                  have hcall := digit_any s[r]
                  rw [hdg] at hcall
                  clear hdg
                  go_wp2_with fail
                  refine (hcall _).mono ?_
                  rintro e w5 ⟨rfl, rfl⟩
                  go_wp2
                  go_roundg (gk' - 1)
                  case measure => exact HZ.out.1
                  case rel => exact ⟨r, i + 1, rfl, by go_num, HZ.out.2, by first | exact ⟨_, rfl⟩ | exact ⟨_, World.drewN_drewN ..⟩ | exact ⟨_, by rw [World.drewN_drewN, World.drewN_drewN]⟩ | exact ⟨_, by rw [World.drewN_drewN, World.drewN_drewN, World.drewN_drewN]⟩⟩
                · go_wp2
                  go_roundg (gk' - 1)
                  case measure => exact HZ.out.1
                  case rel => exact ⟨r, i + 1, rfl, by go_num, HZ.out.2, by first | exact ⟨_, rfl⟩ | exact ⟨_, World.drewN_drewN ..⟩ | exact ⟨_, by rw [World.drewN_drewN, World.drewN_drewN]⟩ | exact ⟨_, by rw [World.drewN_drewN, World.drewN_drewN, World.drewN_drewN]⟩⟩
      · have q : ((nr : Int) != 3) = true := by simp; omega
        have HX2 : Hid (i + 1 + (gk' - 1) = L.length ∧ a ≤ s.size ∧ Cov (byteAt s) s.size a s.size (lvs (L.drop (i + 1)))) := by
          have H1 := HX.out
          rw [HDr.out, if_neg h3] at H1
          exact ⟨by omega, H1.2.1, H1.2.2⟩
        have HM : Hid (gk' - 1 < gk') := by have := HX.out; unfold Hid; omega
        clear h3 HX HDr
        go_wp2
        go_roundg (gk' - 1)
        case measure => exact HM.out
        case rel => exact ⟨a, i + 1, rfl, by go_num, HX2, _, rfl⟩
    · have HE : Hid (∀ k, a ≤ k → k < s.size → ¬ Dig (byteAt s) s.size k) := by
        have H1 := HX.out
        rw [List.drop_eq_nil_of_le (by omega)] at H1
        obtain ⟨j1, j2, j3⟩ := H1
        generalize hrest : lvs ([] : List Nod) = rest at j3
        cases j3 with
        | nil h hn => exact hn
        | cons => cases hrest
      have ha := HX.out.2.1
      clear HX
      go_wp2
      go_loopg [5] (s.size - a) (fun n v wx => ∃ p : Nat, v = .int .i64 (p : Int) ∧ Hid (p + n = s.size ∧ a ≤ p) ∧ ∃ m, wx = w.drewN m)
      case atStart => exact ⟨a, rfl, ⟨by omega, Nat.le_refl _⟩, by first | exact ⟨_, rfl⟩ | exact ⟨_, World.drewN_drewN ..⟩ | exact ⟨_, by rw [World.drewN_drewN, World.drewN_drewN]⟩ | exact ⟨_, by rw [World.drewN_drewN, World.drewN_drewN, World.drewN_drewN]⟩⟩
      case round =>
        obtain ⟨p, rfl, HP, m2, rfl⟩ := hrel
        obtain ⟨gj, hgj⟩ : ∃ m, m = gk := ⟨gk, rfl⟩
        subst hgj
        by_cases hp : p < s.size
        · have hdg : decide (48 ≤ s[p].toNat ∧ s[p].toNat ≤ 57) = false := decide_eq_false (fun x => HE.out p HP.out.2 hp ((dig_byte hp).2 x))
          have hcall := digit_any s[p]
          rw [hdg] at hcall
          clear hdg
          go_wp2_with fail
          refine (hcall _).mono ?_
          rintro e w5 ⟨rfl, rfl⟩
          go_wp2
          go_roundg (gj - 1)
          case measure => have := HP.out; omega
          case rel => exact ⟨p + 1, by go_num, ⟨by have := HP.out; omega, by have := HP.out; omega⟩, by first | exact ⟨_, rfl⟩ | exact ⟨_, World.drewN_drewN ..⟩ | exact ⟨_, by rw [World.drewN_drewN, World.drewN_drewN]⟩ | exact ⟨_, by rw [World.drewN_drewN, World.drewN_drewN, World.drewN_drewN]⟩⟩
        · go_wp2
          go_ret
          exact ⟨rfl, by first | exact ⟨_, rfl⟩ | exact ⟨_, World.drewN_drewN ..⟩ | exact ⟨_, by rw [World.drewN_drewN, World.drewN_drewN]⟩ | exact ⟨_, by rw [World.drewN_drewN, World.drewN_drewN, World.drewN_drewN]⟩⟩
end Go.Proofs.YtagklnaaoclmhaaGreatDoor

namespace Go.Proofs.YtagklnaaoclmhaaGreatDoor
open Go.RowKit

/-- One byte, made a text. -/
theorem convert_one (W : World) (k : Nat) (n : Nat) (hn : n < 256) (h : objAt W k = some (.cells #[.int .u8 (n : Int)] 5)) :
    (convert 110 9 (.slice (some ⟨k, 0, none⟩) 1 1)).run Tryz.prog W = .ok (.string (ba [n.toUInt8])) W := by
  rw [run_convert_bytes_string W 110 9 5 _ 1 1 Tryz.underlying110 Tryz.underlying5 Tryz.underlying9]
  have hl : (loadCells ⟨k, 0, none⟩ 1).run Tryz.prog W = .ok ([(n : Int)].map (Value.int .u8)).toArray W := by
    refine run_loadCells_list (P := Tryz.prog) W ⟨k, 0, none⟩ [.int .u8 (n : Int)] (fun j v hv => ?_)
    rw [Addr.add_mid, Nat.zero_add, cell_of_row W k j _ 5 (0, 0) h]
    simpa using hv
  rw [run_bytesToString W ⟨k, 0, none⟩ 1 1 [(n : Int)] hl]
  simp [ba]
  rfl

/-- A list of numbers as it came in. -/
structure RawAt (w : World) (p : Option Addr) (n : Nat) (R : Nat → Int) : Prop where
  at_ : ∀ k, k < n → ∃ b o, p = some ⟨b, o, none⟩ ∧ w.cell? ⟨b, o + k, none⟩ = some (.int .i64 (R k))
  bd : ∀ k, k < n → -9223372036854775808 ≤ R k ∧ R k ≤ 9223372036854775807

/-- What sum leaves. -/
structure SmOut (e : Ending) : Prop where
  res : ∃ t, e = .returned (.string (ba t)) ∧ Lng 2 t ∧ t.length ≤ 53

theorem lng_one : Lng 2 [49] := .sum (.prod (.num (by simp) (fun c hc => by simp at hc; subst hc; decide)))

set_option maxRecDepth 100000 in
set_option maxHeartbeats 3200000 in
theorem sum_any (p : Option Addr) (n cap : Nat) (R : Nat → Int) (w : World) (hR : RawAt w p n R) (hn : n ≤ maxLen) :
    Calls Tryz.prog 24 #[.slice p n cap] w fun e w' => SmOut e ∧ Kept (fun _ => False) w w' := by
  unfold maxLen at hn
  have HR1 := hide hR.at_
  have HR2 := hide hR.bd
  clear hR
  go_enter Tryz.func24, Tryz.ntmps24
  go_wp2
  go_loopg [3, 4, 5] n (fun r vs vo vi wx => ∃ (t : List UInt8) (op i : Nat), vs = .string (ba t) ∧ vo = .int .i64 (op : Int) ∧ vi = .int .i64 (i : Int) ∧ Hid (i + r = n ∧ op ≤ t.length ∧ t.length ≤ 53 ∧ Lng 2 t) ∧ Kept (fun _ => False) w wx)
  case atStart => exact ⟨[49], 0, 0, rfl, rfl, rfl, ⟨by omega, by simp, by simp, lng_one⟩, Kept.refl _ _⟩
  case round =>
    obtain ⟨t, op, i, rfl, rfl, rfl, HX, hK⟩ := hrel
    obtain ⟨gk', hgk⟩ : ∃ m, m = gk := ⟨gk, rfl⟩
    subst hgk
    have hsz : (ba t).size = t.length := rfl
    have ht53 : t.length ≤ 53 := HX.out.2.2.1
    by_cases hi : i < n
    · by_cases h48 : t.length < 48
      · have h48' : (((ba t).size : Nat) : Int) < 48 := by rw [hsz]; omega
        obtain ⟨b, o, hp, hc⟩ := HR1.out i hi
        have hb : b < w.heap.size := cell_lt hc
        have hc2 : wr.cell? ⟨b, o + i, none⟩ = some (.int .i64 (R i)) := by rw [hK.cell (p := ⟨b, o + i, none⟩) hb (fun h => h)]; exact hc
        have hbd := HR2.out i hi
        have hpk := pick_any (R i) 1099511627776 hbd.1 hbd.2 (by decide) (by decide)
        have hpb := pkI_bd (c := R i) (n := 1099511627776) (by decide)
        subst hp
        clear hc
        generalize pkI (R i) 1099511627776 = v at *
        generalize R i = ri at *
        obtain ⟨vn, rfl⟩ : ∃ vn : Nat, v = (vn : Int) := ⟨v.toNat, by omega⟩
        have hop : op ≤ 53 := by have := HX.out; omega
        obtain ⟨d, hd⟩ : ∃ d, d = 48 + vn / 8 % 10 := ⟨_, rfl⟩
        have hd1 : (48 : Int) + (vn : Int) / 8 % 10 = (d : Int) := by omega
        have hd2 : d < 256 := by omega
        have hdt : dgt vn = d.toUInt8 := by rw [hd]; rfl
        have HD := hide hdt
        clear hd hdt
        go_wp2_with fail
        refine (hpk _).mono ?_
        rintro e w1 ⟨rfl, rfl⟩
        have hcv := convert_one (w1.alloc (.cells #[.int .u8 (d : Int)] 5)) w1.heap.size d hd2 (objAt_new w1 _)
        have hsz2 : (ba [d.toUInt8]).size = 1 := rfl
        have hK2 : Kept (fun _ => False) w (w1.alloc (.cells #[.int .u8 (d : Int)] 5)) := hK.alloc _
        have HV := hide hpb
        clear hpb hpk
        have hcs : vn % 8 = 0 ∨ vn % 8 = 1 ∨ vn % 8 = 2 ∨ vn % 8 = 3 ∨ vn % 8 = 4 ∨ vn % 8 = 5 ∨ vn % 8 = 6 ∨ vn % 8 = 7 := by omega
        have HX2 : Hid (∀ (t' : List UInt8) (op' : Nat), Lng 2 t' → t'.length ≤ t.length + 6 → op' ≤ t'.length → i + 1 + (gk' - 1) = n ∧ op' ≤ t'.length ∧ t'.length ≤ 53 ∧ Lng 2 t') := fun t' op' h1 h2 h3 => ⟨by have := HX.out; omega, h3, by omega, h1⟩
        have HM : Hid (gk' - 1 < gk') := by have := HX.out; unfold Hid; omega
        have HL : Hid (Lng 2 t ∧ op ≤ t.length) := ⟨HX.out.2.2.2, HX.out.2.1⟩
        clear HX
        have hv0 : (0 : Int) ≤ (vn : Int) := by omega
        have hv1 : (vn : Int) ≤ 1099511627776 := by have := HV.out; omega
        rcases hcs with hc | hc | hc | hc | hc | hc | hc | hc
        · have hq : (vn : Int) % 8 = 0 := by omega
          clear hc
          go_wp2
          go_roundg (gk' - 1)
          case measure => exact HM.out
          case rel => exact ⟨t ++ [43, d.toUInt8], op, i + 1, by first | rfl | (congr 1; apply ByteArray.ext; simp [ba]), rfl, by go_num, HX2.out _ _ (by have := Lng.add (s := 43) (.inl rfl) HL.out.1 (.prod (.dig vn)); rw [HD.out] at this; exact this) (by simp) (by have := HL.out.2; simp; omega), hK2⟩
        · have hq : (vn : Int) % 8 = 1 := by omega
          clear hc
          go_wp2
          go_roundg (gk' - 1)
          case measure => exact HM.out
          case rel => exact ⟨t ++ [43, d.toUInt8], op, i + 1, by first | rfl | (congr 1; apply ByteArray.ext; simp [ba]), rfl, by go_num, HX2.out _ _ (by have := Lng.add (s := 43) (.inl rfl) HL.out.1 (.prod (.dig vn)); rw [HD.out] at this; exact this) (by simp) (by have := HL.out.2; simp; omega), hK2⟩
        · have hq : (vn : Int) % 8 = 2 := by omega
          clear hc
          go_wp2
          go_roundg (gk' - 1)
          case measure => exact HM.out
          case rel => exact ⟨t ++ [45, d.toUInt8], op, i + 1, by first | rfl | (congr 1; apply ByteArray.ext; simp [ba]), rfl, by go_num, HX2.out _ _ (by have := Lng.add (s := 45) (.inr rfl) HL.out.1 (.prod (.dig vn)); rw [HD.out] at this; exact this) (by simp) (by have := HL.out.2; simp; omega), hK2⟩
        · have hq : (vn : Int) % 8 = 3 := by omega
          clear hc
          go_wp2
          go_roundg (gk' - 1)
          case measure => exact HM.out
          case rel => exact ⟨t ++ [42, d.toUInt8], op, i + 1, by first | rfl | (congr 1; apply ByteArray.ext; simp [ba]), rfl, by go_num, HX2.out _ _ (by have := Lng.times HL.out.1 (.dig vn); rw [HD.out] at this; exact this) (by simp) (by have := HL.out.2; simp; omega), hK2⟩
        · have hq : (vn : Int) % 8 = 4 := by omega
          clear hc
          go_wp2
          go_roundg (gk' - 1)
          case measure => exact HM.out
          case rel => exact ⟨t ++ [42, d.toUInt8], op, i + 1, by first | rfl | (congr 1; apply ByteArray.ext; simp [ba]), rfl, by go_num, HX2.out _ _ (by have := Lng.times HL.out.1 (.dig vn); rw [HD.out] at this; exact this) (by simp) (by have := HL.out.2; simp; omega), hK2⟩
        · have hq : (vn : Int) % 8 = 5 := by omega
          clear hc
          go_wp2
          go_roundg (gk' - 1)
          case measure => exact HM.out
          case rel => exact ⟨t ++ [43, 40, d.toUInt8, 42, d.toUInt8, 41], op + 1, i + 1, by first | rfl | (congr 1; apply ByteArray.ext; simp [ba]), by go_num, by go_num, HX2.out _ _ (by have := Lng.add (s := 43) (.inl rfl) HL.out.1 (.prod (.par (.sum (.mul (.prod (.dig vn)) (.dig vn))))); rw [HD.out] at this; exact this) (by simp) (by have := HL.out.2; simp; omega), hK2⟩
        · have hq : (vn : Int) % 8 = 6 := by omega
          clear hc
          by_cases h4 : op < 4
          · have h4' : (op : Int) < 4 := by omega
            go_wp2
            go_roundg (gk' - 1)
            case measure => exact HM.out
            case rel => exact ⟨40 :: (t ++ [41]), op + 1, i + 1, by first | rfl | (congr 1; apply ByteArray.ext; simp [ba]), by go_num, by go_num, HX2.out _ _ (Lng.sum (.prod (.par HL.out.1))) (by simp) (by have := HL.out.2; simp; omega), hK2⟩
          · have h4' : ¬ (op : Int) < 4 := by omega
            go_wp2
            go_roundg (gk' - 1)
            case measure => exact HM.out
            case rel => exact ⟨t ++ [43, d.toUInt8, d.toUInt8], op, i + 1, by first | rfl | (congr 1; apply ByteArray.ext; simp [ba]), rfl, by go_num, HX2.out _ _ (by have := Lng.add (s := 43) (.inl rfl) HL.out.1 (.prod (.dig2 vn)); rw [HD.out] at this; exact this) (by simp) (by have := HL.out.2; simp; omega), hK2⟩
        · have hq : (vn : Int) % 8 = 7 := by omega
          clear hc
          by_cases h4 : op < 4
          · have h4' : (op : Int) < 4 := by omega
            go_wp2
            go_roundg (gk' - 1)
            case measure => exact HM.out
            case rel => exact ⟨40 :: (t ++ [41]), op + 1, i + 1, by first | rfl | (congr 1; apply ByteArray.ext; simp [ba]), by go_num, by go_num, HX2.out _ _ (Lng.sum (.prod (.par HL.out.1))) (by simp) (by have := HL.out.2; simp; omega), hK2⟩
          · have h4' : ¬ (op : Int) < 4 := by omega
            go_wp2
            go_roundg (gk' - 1)
            case measure => exact HM.out
            case rel => exact ⟨t ++ [43, d.toUInt8, d.toUInt8], op, i + 1, by first | rfl | (congr 1; apply ByteArray.ext; simp [ba]), rfl, by go_num, HX2.out _ _ (by have := Lng.add (s := 43) (.inl rfl) HL.out.1 (.prod (.dig2 vn)); rw [HD.out] at this; exact this) (by simp) (by have := HL.out.2; simp; omega), hK2⟩
      · have h48' : ¬ (((ba t).size : Nat) : Int) < 48 := by rw [hsz]; omega
        go_wp2
        go_ret
        exact ⟨⟨t, rfl, HX.out.2.2.2, ht53⟩, hK⟩
    · go_wp2
      go_ret
      exact ⟨⟨t, rfl, HX.out.2.2.2, ht53⟩, hK⟩
end Go.Proofs.YtagklnaaoclmhaaGreatDoor
