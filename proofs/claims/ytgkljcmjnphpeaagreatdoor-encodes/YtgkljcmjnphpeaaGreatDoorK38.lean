/- The document's answer: Decode. -/
import Derived.Test.YtgkljcmjnphpeaaGreatDoorK13
import Derived.Test.YtgkljcmjnphpeaaGreatDoorK37
set_option linter.unusedVariables false
set_option linter.unusedSimpArgs false
namespace Go.Proofs.YtgkljcmjnphpeaaGreatDoor
open Go.RowKit
variable {B b : Nat} {S : ByteArray} {most : Nat} {w : World} {p : Nat} {ov : Value} {out : List Nat} {e : Nat}
/-- Where the reading of digits stands. -/
def R85 (d : List Nat) (most n : Nat) (R : Except Nat (List Nat)) (q k v : Nat) (o : List Nat) (e : Nat) : Prop :=
  (e = 0 ∧ q ≤ n ∧ k ≤ 4 ∧ v < 85 ^ k ∧ ∃ f, a85Dec d most f q k v o = R ∧ n - q < f) ∨ (e ≠ 0 ∧ R = .error e)
theorem pow85 {v k : Nat} (hk : k ≤ 4) (h : v < 85 ^ k) : v < 52200625 := by
  have : 85 ^ k ≤ 85 ^ 4 := Nat.pow_le_pow_right (by omega) hk
  omega
/-- Digits thought behind. -/
def padTo : Nat → Nat → Nat
  | 0, n => n
  | f + 1, n => padTo f (85 * n + 84)
theorem pad_eq (n k : Nat) (h2 : 2 ≤ k) (h4 : k ≤ 4) : padTo (5 - k) n = pad85 n k := by
  obtain rfl | rfl | rfl : k = 2 ∨ k = 3 ∨ k = 4 := by omega
  · simp [padTo, pad85]; omega
  · simp [padTo, pad85]; omega
  · simp [padTo, pad85]; omega
theorem pow85_le {v i : Nat} (hk : i ≤ 5) (h : v < 85 ^ i) : v < 4437053125 := by
  have : 85 ^ i ≤ 85 ^ 5 := Nat.pow_le_pow_right (by omega) hk
  omega
set_option maxRecDepth 100000 in
set_option maxHeartbeats 2000000 in
theorem ra85_ok (h : RIn B b S most w p ov out 0) (hp : p ≤ S.size) (R : Except Nat (List Nat)) (f : Nat) (hf : S.size - p < f) (hR : a85Dec (bl S) most f p 0 0 out = R) :
    Calls Tryz.prog 75 #[.pointer (some ⟨b, 0, none⟩)] w fun x w' => x = .returned (.tuple #[]) ∧ ∃ p' ov' o e, RIn B b S most w' p' ov' o e ∧ RRes R o e ∧ Kept 5 B [b] w w' := by
  have hl := bl_len S
  go_enter Tryz.func75, Tryz.ntmps75
  go_wp2
  go_loopw [2, 3] (fun vn vk wr => ∃ (q : Nat) (ov' : Value) (o : List Nat) (e k v : Nat), vn = .int .i64 v ∧ vk = .int .i64 k ∧ RIn B b S most wr q ov' o e ∧ Hid (R85 (bl S) most S.size R q k v o e) ∧ Kept 5 B [b] w wr) (fun _ _ wr => if errOf b wr = 0 then S.size + 1 - posOf b wr else 0)
  case atStart => exact ⟨p, ov, out, 0, 0, 0, rfl, rfl, h, Or.inl ⟨rfl, hp, by omega, by simp, f, hR, hf⟩, Kept.refl _ _ _ _⟩
  clear h hR hf hp
  case round =>
    obtain ⟨q, ov', o, e, k, v, rfl, rfl, r, HST, kk⟩ := hrel
    have mr := hide r.posOf
    have me := hide r.errOf
    have c4 := r.c4
    rcases HST.out with ⟨rfl, hq, hk, hv, f', hdec, hff⟩ | ⟨he, hR⟩
    · obtain ⟨f'', rfl⟩ : ∃ f'', f' = f'' + 1 := ⟨f' - 1, by omega⟩
      have HLL := hide hl
      have HV := hide hv
      have hv2 := pow85 hk hv
      have HS1 := hide (seen_ok r hq)
      have lo := r.lo
      have ls := r.ls
      simp only [a85Dec] at hdec
      clear HST r hv
      by_cases c1 : (bl S).length ≤ skipW (bl S) q
      · rw [if_pos c1] at hdec
        rw [seenV_end c1, seenP_end c1] at HS1
        have HR := hide hdec
        clear hdec c1
        go_wp2_with fail
        refine HS1.out.mono ?_
        rintro x w1 ⟨rfl, r1, k1⟩
        go_wp2_with fail
        go_quiet (fail)
        go_wp2_with fail
        refine (rno_ok (r1.drewN nq) 5 (by omega)).mono ?_
        rintro x w2 ⟨rfl, r2, k2⟩
        rw [rno_zero] at r2
        have m2 := hide r2.errOf
        go_wp2
        go_roundw
        case rel => exact ⟨_, _, _, 5, _, v, rfl, rfl, r2, Or.inr ⟨by omega, HR.out.symm⟩, ((kk.trans k1).drewN nq).trans k2⟩
        case measure => rw [mr.out, me.out, m2.out]; simp; omega
      · rw [if_neg c1] at hdec
        rw [seenV_ink c1, seenP_ink c1] at HS1
        have hX : nth (bl S) (skipW (bl S) q) < 256 := bl_lt S _ (by omega)
        have hq1 : skipW (bl S) q + 1 ≤ S.size := by omega
        have hq0 : q ≤ skipW (bl S) q := skipW_ge _ _
        clear c1
        generalize nth (bl S) (skipW (bl S) q) = X at *
        generalize hK : skipW (bl S) q = K at *
        clear hK
        by_cases c2 : X = 122 ∧ k = 0
        · rw [if_pos c2] at hdec
          obtain ⟨rfl, rfl⟩ := c2
          have HR := hide hdec
          clear hdec
          go_wp2_with fail
          refine HS1.out.mono ?_
          rintro x w1 ⟨rfl, r1, k1⟩
          have HG := hide (group_ok r1 0 4 (by omega) (by omega))
          rw [show ge85 0 0 = 0 from rfl, show (g85 0).take 4 = [0, 0, 0, 0] from rfl] at HG
          have hv0 : v = 0 := by have := HV.out; simp at this; omega
          subst hv0
          by_cases c5 : o.length + 4 ≤ most
          · rw [rputs_room most [0, 0, 0, 0] o c5] at HG
            have HR2 := hide (HR.out.symm.trans (if_pos c5))
            go_wp2_with fail
            refine HG.out.mono ?_
            rintro x w2 ⟨rfl, ov2, r2, k2⟩
            have m2 := hide r2.errOf
            have m3 := hide r2.posOf
            go_wp2
            go_roundw
            case rel => exact ⟨_, _, _, 0, 0, 0, rfl, rfl, r2, Or.inl ⟨rfl, hq1, by omega, by simp, f'', HR2.out.symm, by omega⟩, (kk.trans k1).trans k2⟩
            case measure => rw [mr.out, me.out, m2.out, m3.out]; simp; omega
          · have hful := rputs_full most [0, 0, 0, 0] o lo (by simp; omega)
            have HR2 := hide (HR.out.symm.trans (if_neg c5))
            generalize rputs most [0, 0, 0, 0] (o, 0) = Z at *
            go_wp2_with fail
            refine HG.out.mono ?_
            rintro x w2 ⟨rfl, ov2, r2, k2⟩
            rw [hful] at r2
            have m2 := hide r2.errOf
            go_wp2
            go_roundw
            case rel => exact ⟨_, _, _, 6, 0, 0, rfl, rfl, r2, Or.inr ⟨by omega, HR2.out⟩, (kk.trans k1).trans k2⟩
            case measure => rw [mr.out, me.out, m2.out]; simp; omega
        · rw [if_neg c2] at hdec
          by_cases c3 : 33 ≤ X ∧ X ≤ 117
          · rw [if_pos c3] at hdec
            have d1 : ((X : Int) == 122) = false := by simp; omega
            have d2 : (33 : Int) ≤ X := by omega
            have d3 : (X : Int) ≤ 117 := by omega
            obtain ⟨N, hN⟩ : ∃ N, v * 85 + (X - 33) = N := ⟨_, rfl⟩
            have eN : (85 : Int) * v + X - 33 = N := by omega
            rw [hN] at hdec
            have hN2 : N ≤ 4500000000 := by omega
            by_cases c6 : k = 4
            · rw [if_pos c6] at hdec
              subst c6
              have HR := hide hdec
              clear hdec hN c2
              go_wp2_with fail
              refine HS1.out.mono ?_
              rintro x w1 ⟨rfl, r1, k1⟩
              have HG := hide (group_ok r1 N 4 (by omega) (by omega))
              by_cases c7 : 4294967296 ≤ N
              · have HR2 := hide (HR.out.symm.trans (if_pos c7))
                have hge : ge85 N 0 = 5 := by unfold ge85; rw [if_pos c7, rno_zero]
                rw [hge, rputs_err most _ (by omega)] at HG
                clear c7 hge
                go_wp2_with fail
                refine HG.out.mono ?_
                rintro x w2 ⟨rfl, ov2, r2, k2⟩
                have m2 := hide r2.errOf
                go_wp2
                go_roundw
                case rel => exact ⟨_, _, _, 5, 0, 0, rfl, rfl, r2, Or.inr ⟨by omega, HR2.out⟩, (kk.trans k1).trans k2⟩
                case measure => rw [mr.out, me.out, m2.out]; simp; omega
              · have HR1 := hide (HR.out.symm.trans (if_neg c7))
                have hge : ge85 N 0 = 0 := by unfold ge85; rw [if_neg c7]
                have hg4 : (g85 N).take 4 = a85Out N := by rw [g85_small (by omega)]; rfl
                have ho4 : (a85Out N).length = 4 := rfl
                rw [hge, hg4] at HG
                clear c7 hge hg4
                by_cases c5 : o.length + 4 ≤ most
                · rw [rputs_room most _ o (by rw [ho4]; exact c5)] at HG
                  have HR2 := hide (HR1.out.trans (if_pos c5))
                  go_wp2_with fail
                  refine HG.out.mono ?_
                  rintro x w2 ⟨rfl, ov2, r2, k2⟩
                  have m2 := hide r2.errOf
                  have m3 := hide r2.posOf
                  go_wp2
                  go_roundw
                  case rel => exact ⟨_, _, _, 0, 0, 0, rfl, rfl, r2, Or.inl ⟨rfl, hq1, by omega, by simp, f'', HR2.out.symm, by omega⟩, (kk.trans k1).trans k2⟩
                  case measure => rw [mr.out, me.out, m2.out, m3.out]; simp; omega
                · have hful := rputs_full most (a85Out N) o lo (by rw [ho4]; omega)
                  have HR2 := hide (HR1.out.trans (if_neg c5))
                  generalize rputs most (a85Out N) (o, 0) = Z at *
                  go_wp2_with fail
                  refine HG.out.mono ?_
                  rintro x w2 ⟨rfl, ov2, r2, k2⟩
                  rw [hful] at r2
                  have m2 := hide r2.errOf
                  go_wp2
                  go_roundw
                  case rel => exact ⟨_, _, _, 6, 0, 0, rfl, rfl, r2, Or.inr ⟨by omega, HR2.out⟩, (kk.trans k1).trans k2⟩
                  case measure => rw [mr.out, me.out, m2.out]; simp; omega
            · rw [if_neg c6] at hdec
              have HR := hide hdec
              have HVN : Hid (N < 85 ^ (k + 1)) := by
                have h1 := HV.out
                unfold Hid
                rw [Nat.pow_succ]; omega
              have d5 : ((k : Int) + 1 == 5) = false := by simp; omega
              clear hdec hN c2
              go_wp2_with fail
              refine HS1.out.mono ?_
              rintro x w1 ⟨rfl, r1, k1⟩
              have m2 := hide r1.errOf
              have m3 := hide r1.posOf
              go_wp2
              go_roundw
              case rel => exact ⟨_, _, _, 0, k + 1, N, by go_num, by go_num, r1, Or.inl ⟨rfl, hq1, by omega, HVN.out, f'', HR.out, by omega⟩, kk.trans k1⟩
              case measure => rw [mr.out, me.out, m2.out, m3.out]; simp; omega
          · rw [if_neg c3] at hdec
            by_cases c8 : X = 126 ∧ K + 1 < (bl S).length ∧ nth (bl S) (K + 1) = 62 ∧ k ≠ 1
            · rw [if_pos c8] at hdec
              obtain ⟨rfl, hlt, h62, hk1⟩ := c8
              have hlt' : ((K : Int) + 1) < S.size := by omega
              have hx := bl_nth S (K + 1) (by omega)
              rw [h62] at hx
              have dk1 : ((k : Int) == 1) = false := by simp; omega
              have HR := hide hdec
              clear hdec c2 c3 h62
              go_wp2_with fail
              refine HS1.out.mono ?_
              rintro x w1 ⟨rfl, r1, k1⟩
              have g0 := r1.c0
              have g1 := r1.c1
              have g2 := r1.fz 1
              have R1 := hide r1
              have K1 := hide (kk.trans k1)
              clear r1 k1 kk
              go_wp2_with fail
              go_quiet (fail)
              have R2 := hide ((R1.out.drewN nq).set1 (K + 2) (by omega))
              have K2 := hide ((K1.out.drewN nq).setCell (p := ⟨b, 1, none⟩) (by simp) (.int .i64 ((K + 2 : Nat) : Int)))
              have eK : ((K + 2 : Nat) : Int) = (K : Int) + 1 + 1 := by omega
              rw [eK] at R2 K2
              go_wp2
              go_loopw [2, 5] (fun vn vi wr2 => ∃ i n : Nat, vn = .int .i64 n ∧ vi = .int .i64 i ∧ i ≤ 5 ∧ Hid (n < 85 ^ i) ∧ Hid (padTo (5 - i) n = padTo (5 - k) v) ∧ RIn B b S most wr2 (K + 2) ov' o 0 ∧ Kept 5 B [b] w wr2) (fun _ vi _ => 5 - (intOf vi).toNat)
              case atStart => exact ⟨k, v, rfl, rfl, by omega, HV, rfl, R2.out, K2.out⟩
              clear R2 K2 R1 K1
              case round =>
                obtain ⟨i, n, rfl, rfl, hi5, HN, HP, r2, k2⟩ := hrel
                have hn := pow85_le hi5 HN.out
                by_cases ci : i < 5
                · have ci' : (i : Int) < 5 := by omega
                  have HN2 : Hid (85 * n + 84 < 85 ^ (i + 1)) := by
                    have h1 := HN.out
                    unfold Hid
                    rw [Nat.pow_succ]; omega
                  have HP2 : Hid (padTo (5 - (i + 1)) (85 * n + 84) = padTo (5 - k) v) := by
                    have h1 := HP.out
                    rw [show 5 - i = (5 - (i + 1)) + 1 by omega] at h1
                    exact h1
                  go_wp2
                  go_roundw
                  case rel => exact ⟨i + 1, 85 * n + 84, by go_num, by go_num, by omega, HN2, HP2, r2, k2⟩
                  case measure => simp [intOf]; omega
                · obtain rfl : i = 5 := by omega
                  obtain rfl : n = padTo (5 - k) v := HP.out
                  by_cases ck : k = 0
                  · rw [if_pos ck] at HR
                    subst ck
                    go_wp2_with fail
                    refine (rest_ok r2 (by omega)).mono ?_
                    rintro x w3 ⟨rfl, r3, k3⟩
                    go_wp2
                    refine bodyPost_ret (v := .tuple #[]) (by simp [results, Tryz.results75, go_sem]) rfl ?_
                    exact ⟨rfl, _, _, _, _, r3, by rw [← HR.out]; exact restW_res _ _ _, k2.trans k3⟩
                  · rw [if_neg ck, ← pad_eq v k (by omega) hk] at HR
                    have ck' : (0 : Int) < k := by omega
                    have ek : (k : Int) - 1 = ((k - 1 : Nat) : Int) := by omega
                    have HG := hide (group_ok r2 (padTo (5 - k) v) (k - 1) (by omega) (by omega))
                    generalize padTo (5 - k) v = N at *
                    by_cases c7 : 4294967296 ≤ N
                    · have HR2 := hide (HR.out.symm.trans (if_pos c7))
                      have hge : ge85 N 0 = 5 := by unfold ge85; rw [if_pos c7, rno_zero]
                      rw [hge, rputs_err most _ (by omega)] at HG
                      clear c7 hge
                      go_wp2_with fail
                      refine HG.out.mono ?_
                      rintro x w3 ⟨rfl, ov3, r3, k3⟩
                      go_wp2_with fail
                      refine (rest_ok r3 (by omega)).mono ?_
                      rintro x w4 ⟨rfl, r4, k4⟩
                      rw [restE_err (by omega)] at r4
                      go_wp2
                      refine bodyPost_ret (v := .tuple #[]) (by simp [results, Tryz.results75, go_sem]) rfl ?_
                      exact ⟨rfl, _, _, _, _, r4, by rw [HR2.out]; exact ⟨rfl, by omega⟩, (k2.trans k3).trans k4⟩
                    · have HR1 := hide (HR.out.symm.trans (if_neg c7))
                      have hge : ge85 N 0 = 0 := by unfold ge85; rw [if_neg c7]
                      have hg4 : g85 N = a85Out N := g85_small (by omega)
                      have ho4 : ((a85Out N).take (k - 1)).length = k - 1 := by rw [List.length_take]; show min (k - 1) 4 = _; omega
                      rw [hge, hg4] at HG
                      clear c7 hge hg4
                      by_cases c5 : o.length + (k - 1) ≤ most
                      · rw [rputs_room most _ o (by rw [ho4]; exact c5)] at HG
                        have HR2 := hide (HR1.out.trans (if_pos c5))
                        go_wp2_with fail
                        refine HG.out.mono ?_
                        rintro x w3 ⟨rfl, ov3, r3, k3⟩
                        go_wp2_with fail
                        refine (rest_ok r3 (by omega)).mono ?_
                        rintro x w4 ⟨rfl, r4, k4⟩
                        go_wp2
                        refine bodyPost_ret (v := .tuple #[]) (by simp [results, Tryz.results75, go_sem]) rfl ?_
                        exact ⟨rfl, _, _, _, _, r4, by rw [HR2.out]; exact restW_res _ _ _, (k2.trans k3).trans k4⟩
                      · have hful := rputs_full most ((a85Out N).take (k - 1)) o lo (by rw [ho4]; omega)
                        have HR2 := hide (HR1.out.trans (if_neg c5))
                        generalize rputs most ((a85Out N).take (k - 1)) (o, 0) = Z at *
                        go_wp2_with fail
                        refine HG.out.mono ?_
                        rintro x w3 ⟨rfl, ov3, r3, k3⟩
                        rw [hful] at r3
                        go_wp2_with fail
                        refine (rest_ok r3 (by omega)).mono ?_
                        rintro x w4 ⟨rfl, r4, k4⟩
                        rw [restE_err (by omega)] at r4
                        go_wp2
                        refine bodyPost_ret (v := .tuple #[]) (by simp [results, Tryz.results75, go_sem]) rfl ?_
                        exact ⟨rfl, _, _, _, _, r4, by rw [HR2.out]; exact ⟨rfl, by omega⟩, (k2.trans k3).trans k4⟩
            · rw [if_neg c8] at hdec
              have HR := hide hdec
              clear hdec
              by_cases e1 : X = 126
              · subst e1
                by_cases e2 : K + 1 < (bl S).length
                · have e2' : ((K : Int) + 1) < S.size := by omega
                  have hx := bl_nth S (K + 1) (by omega)
                  by_cases e3 : nth (bl S) (K + 1) = 62
                  · rw [e3] at hx
                    have e4 : k = 1 := by
                      rcases Nat.decEq k 1 with h | h
                      · exact absurd ⟨rfl, e2, e3, h⟩ c8
                      · exact h
                    subst e4
                    clear c8 c2 c3
                    go_wp2_with fail
                    refine HS1.out.mono ?_
                    rintro x w1 ⟨rfl, r1, k1⟩
                    have g0 := r1.c0
                    have g1 := r1.c1
                    go_wp2_with fail
                    go_quiet (fail)
                    go_wp2_with fail
                    refine (rno_ok (r1.drewN nq) 5 (by omega)).mono ?_
                    rintro x w2 ⟨rfl, r2, k2⟩
                    rw [rno_zero] at r2
                    have m2 := hide r2.errOf
                    go_wp2
                    go_roundw
                    case rel => exact ⟨_, _, _, 5, _, v, rfl, rfl, r2, Or.inr ⟨by omega, HR.out.symm⟩, ((kk.trans k1).drewN nq).trans k2⟩
                    case measure => rw [mr.out, me.out, m2.out]; simp; omega
                  · have hy : nth (bl S) (K + 1) < 256 := bl_lt S _ (by omega)
                    have e3' : ((nth (bl S) (K + 1) : Int) == 62) = false := by simp; omega
                    generalize nth (bl S) (K + 1) = Y at *
                    clear c8 c2 c3
                    go_wp2_with fail
                    refine HS1.out.mono ?_
                    rintro x w1 ⟨rfl, r1, k1⟩
                    have g0 := r1.c0
                    have g1 := r1.c1
                    go_wp2_with fail
                    go_quiet (fail)
                    go_wp2_with fail
                    refine (rno_ok (r1.drewN nq) 5 (by omega)).mono ?_
                    rintro x w2 ⟨rfl, r2, k2⟩
                    rw [rno_zero] at r2
                    have m2 := hide r2.errOf
                    go_wp2
                    go_roundw
                    case rel => exact ⟨_, _, _, 5, _, v, rfl, rfl, r2, Or.inr ⟨by omega, HR.out.symm⟩, ((kk.trans k1).drewN nq).trans k2⟩
                    case measure => rw [mr.out, me.out, m2.out]; simp; omega
                · have e2' : decide (((K : Int) + 1) < S.size) = false := by simp; omega
                  clear c8 c2 c3
                  go_wp2_with fail
                  refine HS1.out.mono ?_
                  rintro x w1 ⟨rfl, r1, k1⟩
                  have g0 := r1.c0
                  have g1 := r1.c1
                  go_wp2_with fail
                  go_quiet (fail)
                  go_wp2_with fail
                  refine (rno_ok (r1.drewN nq) 5 (by omega)).mono ?_
                  rintro x w2 ⟨rfl, r2, k2⟩
                  rw [rno_zero] at r2
                  have m2 := hide r2.errOf
                  go_wp2
                  go_roundw
                  case rel => exact ⟨_, _, _, 5, _, v, rfl, rfl, r2, Or.inr ⟨by omega, HR.out.symm⟩, ((kk.trans k1).drewN nq).trans k2⟩
                  case measure => rw [mr.out, me.out, m2.out]; simp; omega
              · have e1' : ((X : Int) == 126) = false := by simp; omega
                rcases Nat.lt_or_ge X 33 with h33 | h33
                · have d2 : ¬ (33 : Int) ≤ X := by omega
                  have d1 : ((X : Int) == 122) = false := by simp; omega
                  clear c8 c2 c3
                  go_wp2_with fail
                  refine HS1.out.mono ?_
                  rintro x w1 ⟨rfl, r1, k1⟩
                  have g0 := r1.c0
                  have g1 := r1.c1
                  go_wp2_with fail
                  go_quiet (fail)
                  go_wp2_with fail
                  refine (rno_ok (r1.drewN nq) 5 (by omega)).mono ?_
                  rintro x w2 ⟨rfl, r2, k2⟩
                  rw [rno_zero] at r2
                  have m2 := hide r2.errOf
                  go_wp2
                  go_roundw
                  case rel => exact ⟨_, _, _, 5, _, v, rfl, rfl, r2, Or.inr ⟨by omega, HR.out.symm⟩, ((kk.trans k1).drewN nq).trans k2⟩
                  case measure => rw [mr.out, me.out, m2.out]; simp; omega
                · have d2 : (33 : Int) ≤ X := by omega
                  have d3 : ¬ (X : Int) ≤ 117 := by omega
                  by_cases e5 : X = 122
                  · have d0 : ((k : Int) == 0) = false := by simp; omega
                    subst e5
                    clear c8 c2 c3
                    go_wp2_with fail
                    refine HS1.out.mono ?_
                    rintro x w1 ⟨rfl, r1, k1⟩
                    have g0 := r1.c0
                    have g1 := r1.c1
                    go_wp2_with fail
                    go_quiet (fail)
                    go_wp2_with fail
                    refine (rno_ok (r1.drewN nq) 5 (by omega)).mono ?_
                    rintro x w2 ⟨rfl, r2, k2⟩
                    rw [rno_zero] at r2
                    have m2 := hide r2.errOf
                    go_wp2
                    go_roundw
                    case rel => exact ⟨_, _, _, 5, _, v, rfl, rfl, r2, Or.inr ⟨by omega, HR.out.symm⟩, ((kk.trans k1).drewN nq).trans k2⟩
                    case measure => rw [mr.out, me.out, m2.out]; simp; omega
                  · have d1 : ((X : Int) == 122) = false := by simp; omega
                    clear c8 c2 c3
                    go_wp2_with fail
                    refine HS1.out.mono ?_
                    rintro x w1 ⟨rfl, r1, k1⟩
                    have g0 := r1.c0
                    have g1 := r1.c1
                    go_wp2_with fail
                    go_quiet (fail)
                    go_wp2_with fail
                    refine (rno_ok (r1.drewN nq) 5 (by omega)).mono ?_
                    rintro x w2 ⟨rfl, r2, k2⟩
                    rw [rno_zero] at r2
                    have m2 := hide r2.errOf
                    go_wp2
                    go_roundw
                    case rel => exact ⟨_, _, _, 5, _, v, rfl, rfl, r2, Or.inr ⟨by omega, HR.out.symm⟩, ((kk.trans k1).drewN nq).trans k2⟩
                    case measure => rw [mr.out, me.out, m2.out]; simp; omega
    · have he' : ((e : Int) == 0) = false := by simp; omega
      have HRR := hide hR
      clear hR HST
      go_wp2
      go_end0
      exact ⟨rfl, q, ov', o, e, r, by rw [HRR.out]; exact ⟨rfl, he⟩, kk⟩
end Go.Proofs.YtgkljcmjnphpeaaGreatDoor
namespace Go.Proofs.YtgkljcmjnphpeaaGreatDoor
open Go.RowKit
variable {B b : Nat} {S : ByteArray} {most : Nat} {w : World} {p : Nat} {ov : Value} {out : List Nat} {e : Nat}
/-- What a filter makes of bytes. -/
def UndoTo (f most : Nat) (d : List Nat) (res : Except Nat (List Nat)) : Prop :=
  (f = 1 ∧ hexDec d most (d.length + 1) 0 [] = res) ∨ (f = 2 ∧ a85Dec d most (d.length + 1) 0 0 0 [] = res) ∨ (f = 3 ∧ runDec d most (d.length + 1) 0 [] = res) ∨ (f = 4 ∧ Fo.FlateTo most (Fo.bitsOf d) res)
theorem UndoTo.some (f most : Nat) (d : List Nat) (h1 : 1 ≤ f) (h4 : f ≤ 4) : ∃ res, UndoTo f most d res := by
  have : f = 1 ∨ f = 2 ∨ f = 3 ∨ f = 4 := by omega
  rcases this with rfl | rfl | rfl | rfl
  · exact ⟨_, Or.inl ⟨rfl, rfl⟩⟩
  · exact ⟨_, Or.inr (Or.inl ⟨rfl, rfl⟩)⟩
  · exact ⟨_, Or.inr (Or.inr (Or.inl ⟨rfl, rfl⟩))⟩
  · obtain ⟨res, h⟩ := Fo.FlateTo.some most (Fo.bitsOf d)
    exact ⟨res, Or.inr (Or.inr (Or.inr ⟨rfl, h⟩))⟩
/-- What is answered. -/
def resV : Except Nat (List Nat) → Value
  | .ok l => .tuple #[.string (strN l), .int .i64 0]
  | .error n => .tuple #[.string { data := #[] }, .int .i64 (n : Nat)]
theorem RIn.start (hs : S.size ≤ 10000000) (hm : most ≤ 1000000) : RIn w.heap.size w.heap.size S most (w.alloc (.cells #[.string S, .int .i64 0, .slice none 0 0, .int .i64 most, .int .i64 0] 106 (0, 0))) 0 (.slice none 0 0) [] 0 :=
  ⟨Nat.le_refl _, blk_new _ _, World.ownsRow_nil _ _ _ _, hm, hs, by omega, Nat.zero_le _, by omega⟩
theorem rest4_zero (S : ByteArray) : rest4 S 0 = Fo.bitsOf (bl S) := by rw [rest4, List.drop_zero]
set_option maxRecDepth 100000 in
set_option maxHeartbeats 1000000 in
theorem rundo_gen (f F : Nat) (hf : 1 ≤ f ∧ f ≤ 4) (hs : S.size ≤ 10000000) (hm : most ≤ 1000000) {res : Except Nat (List Nat)}
    (hF : F = (if f = 1 then 74 else if f = 2 then 75 else if f = 3 then 76 else 77))
    (hc : Calls Tryz.prog F #[.pointer (some ⟨w.heap.size, 0, none⟩)] (w.alloc (.cells #[.string S, .int .i64 0, .slice none 0 0, .int .i64 most, .int .i64 0] 106 (0, 0))) fun x w' => x = .returned (.tuple #[]) ∧ ∃ p' ov' o e, RIn w.heap.size w.heap.size S most w' p' ov' o e ∧ RRes res o e ∧ Kept 5 w.heap.size [w.heap.size] (w.alloc (.cells #[.string S, .int .i64 0, .slice none 0 0, .int .i64 most, .int .i64 0] 106 (0, 0))) w') :
    Calls Tryz.prog 37 #[.int .i64 f, .string S, .int .i64 most] w fun x w' => x = .returned (resV res) ∧ Below w.heap.size w w' := by
  have hfs : f = 1 ∨ f = 2 ∨ f = 3 ∨ f = 4 := by omega
  rcases hfs with rfl | rfl | rfl | rfl
  all_goals
    simp only [if_true, if_false, reduceIte, Nat.reduceEqDiff] at hF
    subst hF
    have HC := hide hc
    clear hc
    go_enter Tryz.func37, Tryz.ntmps37
    go_wp2_with fail
    refine HC.out.mono ?_
    rintro x w1 ⟨rfl, p', ov', o, e, r, hR, k⟩
    have HB := hide (keptBelowNew k)
    have c2 := r.c2
    have c4 := r.c4
    clear HC k
    cases res with
    | ok l =>
      obtain ⟨rfl, rfl⟩ := hR
      have hcv := string_own r.own
      go_wp2
      go_ret2
      exact ⟨rfl, HB.out⟩
    | error n =>
      obtain ⟨rfl, hn⟩ := hR
      have hn' : ((e : Int) != 0) = true := by simp; omega
      go_wp2_with fail
      go_quiet (fail)
      go_wp2
      go_ret2
      exact ⟨rfl, ⟨HB.out.os, HB.out.tape, HB.out.output, HB.out.size, HB.out.block⟩⟩
theorem ures_rres {res : Except Nat (List Nat)} {o : List Nat} {e : Nat} (h : URes res o e) : RRes res o e := by
  cases res with
  | ok l => exact ⟨h.1, h.2.1⟩
  | error n => exact h
theorem rundo_ok (f : Nat) (hs : S.size ≤ 10000000) (hm : most ≤ 1000000) {res : Except Nat (List Nat)} (hres : UndoTo f most (bl S) res) :
    Calls Tryz.prog 37 #[.int .i64 f, .string S, .int .i64 most] w fun x w' => x = .returned (resV res) ∧ Below w.heap.size w w' := by
  have hl := bl_len S
  have R := RIn.start (S := S) (most := most) (w := w) hs hm
  rcases hres with ⟨rfl, h⟩ | ⟨rfl, h⟩ | ⟨rfl, h⟩ | ⟨rfl, h⟩
  · exact rundo_gen 1 74 (by omega) hs hm rfl (rhex_ok R (by omega) res _ (by omega) h)
  · exact rundo_gen 2 75 (by omega) hs hm rfl (ra85_ok R (by omega) res _ (by omega) h)
  · exact rundo_gen 3 76 (by omega) hs hm rfl (rrun_ok R (by omega) res _ (by omega) h)
  · refine rundo_gen 4 77 (by omega) hs hm rfl ((rflate_ok R (by rw [rest4_zero]; exact h)).mono ?_)
    rintro x w' ⟨rfl, q, ov', o, e, r, hu, k⟩
    exact ⟨rfl, q, ov', o, e, r, ures_rres hu, k⟩
end Go.Proofs.YtgkljcmjnphpeaaGreatDoor
namespace Go.Proofs.YtgkljcmjnphpeaaGreatDoor
open Go.RowKit
variable {S : ByteArray} {w : World}
theorem rdecode_arg (f most : Int) (h : f < 1 ∨ 4 < f ∨ most < 0 ∨ 1000000 < most) :
    Calls Tryz.prog 40 #[.int .i64 f, .string S, .int .i64 most] w fun x w' => x = .returned (resV (.error 1)) ∧ w' = w := by
  by_cases c1 : f < 1
  · clear h
    go_enter Tryz.func40, Tryz.ntmps40
    go_wp2
    go_ret2
    exact ⟨rfl, rfl⟩
  by_cases c2 : 4 < f
  · clear h
    go_enter Tryz.func40, Tryz.ntmps40
    go_wp2
    go_ret2
    exact ⟨rfl, rfl⟩
  by_cases c3 : most < 0
  · clear h
    go_enter Tryz.func40, Tryz.ntmps40
    go_wp2
    go_ret2
    exact ⟨rfl, rfl⟩
  have c4 : 1000000 < most := by omega
  clear h
  go_enter Tryz.func40, Tryz.ntmps40
  go_wp2
  go_ret2
  exact ⟨rfl, rfl⟩
theorem rdecode_long (f most : Int) (h1 : 1 ≤ f) (h2 : f ≤ 4) (h3 : 0 ≤ most) (h4 : most ≤ 1000000) (hS : 200000 < S.size) :
    Calls Tryz.prog 40 #[.int .i64 f, .string S, .int .i64 most] w fun x w' => x = .returned (resV (.error 3)) ∧ w' = w := by
  have c1 : ¬ f < 1 := by omega
  have c2 : ¬ 4 < f := by omega
  have c3 : ¬ most < 0 := by omega
  have c4 : ¬ 1000000 < most := by omega
  have c5 : (200000 : Int) < S.size := by omega
  clear h1 h2 h3 h4 hS
  go_enter Tryz.func40, Tryz.ntmps40
  go_wp2
  go_ret2
  exact ⟨rfl, rfl⟩
theorem rdecode_ok (f most : Nat) (h1 : 1 ≤ f) (h2 : f ≤ 4) (h4 : most ≤ 1000000) (hS : S.size ≤ 200000) {res : Except Nat (List Nat)} (hres : UndoTo f most (bl S) res) :
    Calls Tryz.prog 40 #[.int .i64 f, .string S, .int .i64 most] w fun x w' => x = .returned (resV res) ∧ Below w.heap.size w w' := by
  have HU := hide (rundo_ok (w := w) f (by omega) h4 hres)
  have c1 : ¬ (f : Int) < 1 := by omega
  have c2 : ¬ 4 < (f : Int) := by omega
  have c3 : ¬ (most : Int) < 0 := by omega
  have c4 : ¬ 1000000 < (most : Int) := by omega
  have c5 : ¬ (200000 : Int) < S.size := by omega
  clear h1 h2 h4 hS hres
  go_enter Tryz.func40, Tryz.ntmps40
  go_wp2_with fail
  refine HU.out.mono ?_
  rintro x w1 ⟨rfl, b1⟩
  cases res with
  | ok l =>
    rw [show resV (.ok l) = .tuple #[.string (strN l), .int .i64 0] from rfl]
    go_wp2
    go_ret2
    exact ⟨rfl, b1⟩
  | error n =>
    rw [show resV (.error n) = .tuple #[.string { data := #[] }, .int .i64 (n : Nat)] from rfl]
    go_wp2
    go_ret2
    exact ⟨rfl, b1⟩
end Go.Proofs.YtgkljcmjnphpeaaGreatDoor
