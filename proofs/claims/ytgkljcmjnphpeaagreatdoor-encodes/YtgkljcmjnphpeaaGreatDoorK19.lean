/- The document's answer: filter 4: lists of lengths; the fixed codes. -/
import Derived.Test.YtgkljcmjnphpeaaGreatDoorK18
import Derived.Test.YtgkljcmjnphpeaaGreatDoorK06
set_option linter.unusedVariables false
set_option linter.unusedSimpArgs false
namespace Go.Proofs.YtgkljcmjnphpeaaGreatDoor
open Go.RowKit
variable {B b : Nat} {S : ByteArray} {most : Nat} {w : World} {p : Nat} {ov : Value} {out : List Nat} {e : Nat}
/-- What has come of a block. -/
def BRes (S : ByteArray) (res : Except Nat (List Bool × List Nat)) (q : Nat) (o : List Nat) (e : Nat) : Prop := match res with
  | .ok (r, l) => e = 0 ∧ o = l ∧ rest4 S q = r ∧ q ≤ 8 * S.size ∧ ∀ x ∈ o, x < 256
  | .error n => e = n ∧ n ≠ 0
/-- Where the reading of a block's symbols stands. -/
def PSt (S : ByteArray) (c : Fo.Codes) (window most : Nat) (res : Except Nat (List Bool × List Nat)) (q : Nat) (o : List Nat) (e : Nat) : Prop :=
  (e = 0 ∧ q ≤ 8 * S.size ∧ Fo.PartsTo c window most (rest4 S q) o res ∧ ∀ x ∈ o, x < 256) ∨ (e ≠ 0 ∧ res = .error e)
theorem moreV_le : ∀ t : Fin 33, 1 ≤ moreV 2 1 t.val ∧ moreV 2 1 t.val ≤ 200000 := by decide +kernel
theorem lenSpan_285 : Fo.lenSpan 285 = (258, 0) := by decide +kernel
set_option maxRecDepth 100000 in
set_option maxHeartbeats 2000000 in
theorem rsymbols_ok (h : RIn B b S most w p ov out 0) {c : Fo.Codes} {window b1 b2 M : Nat} (hM : M ≤ 1000) (hw : window ≤ 32768) (hT : TreeOk w b1 c.cs c.ss M) (hD : TreeOk w b2 c.cd c.sd 32) (hcs : ∀ r s r', Fo.sym c.cs c.ss r = some (s, r') → s ≤ 1000) (hcd : ∀ r s r', Fo.sym c.cd c.sd r = some (s, r') → s ≤ 32)
    {res : Except Nat (List Bool × List Nat)} (hst : PSt S c window most res p out 0) :
    Calls Tryz.prog 209 #[.pointer (some ⟨b, 0, none⟩), .pointer (some ⟨b1, 0, none⟩), .pointer (some ⟨b2, 0, none⟩), .int .i64 window] w fun x w' => x = .returned (.tuple #[]) ∧ ∃ q ov' o e, RIn B b S most w' q ov' o e ∧ BRes S res q o e ∧ Kept 5 B [b] w w' := by
  have HCS := hide hcs
  have HCD := hide hcd
  clear hcs hcd
  go_enter Tryz.func209, Tryz.ntmps209
  go_wp2
  go_loopw [8] (fun _ wr => ∃ (q : Nat) (ov' : Value) (o : List Nat) (e : Nat), RIn B b S most wr q ov' o e ∧ Hid (PSt S c window most res q o e) ∧ TreeOk wr b1 c.cs c.ss M ∧ TreeOk wr b2 c.cd c.sd 32 ∧ Kept 5 B [b] w wr) (fun _ wr => if errOf b wr = 0 then 8 * S.size + 1 - posOf b wr else 0)
  case atStart => exact ⟨p, ov, out, 0, h, hst, hT, hD, Kept.refl _ _ _ _⟩
  clear h hst hT hD
  case round =>
    obtain ⟨q, ov', o, e, r, HST, hT, hD, kk⟩ := hrel
    have mr := hide r.posOf
    have me := hide r.errOf
    have c4 := r.c4
    rcases HST.out with ⟨rfl, hq, hP, hby⟩ | ⟨he, hR⟩
    · have HP := hide hP
      have HBY := hide hby
      have HS1 := hide (rsymbol_any r (fun _ => hq) hT hM)
      have HTK : Hid (∀ w', Kept 5 B [b] wr w' → TreeOk w' b1 c.cs c.ss M ∧ TreeOk w' b2 c.cd c.sd 32) := fun w' k => ⟨hT.kept k r, hD.kept k r⟩
      clear HST hP hby hT hD r
      go_wp2_with fail
      refine HS1.out.mono ?_
      rintro x w1 ⟨s, q1, e1, rfl, r1, HSY, hv1, k1⟩
      have d4 := r1.c4
      rcases HSY.out with ⟨h0, _⟩ | ⟨_, r', hs1, rfl, hr', hq1⟩ | ⟨_, hs1, rfl⟩
      · exact absurd rfl h0
      · subst hr'
        have hs1000 := HCS.out _ _ _ hs1
        have hsh : q < q1 := by
          have := Fo.sym_shorter hs1
          rw [rest4_len, rest4_len] at this
          omega
        have HS := hide hs1
        have R1 := hide r1
        have K1 := hide (kk.trans k1)
        have HTK1 : Hid (∀ w', Kept 5 B [b] w1 w' → TreeOk w' b1 c.cs c.ss M ∧ TreeOk w' b2 c.cd c.sd 32) := fun w' k => HTK.out w' (k1.trans k)
        clear hs1 r1 kk k1 HSY HS1 hv1 HTK
        by_cases c1 : s < 256
        · have c1' : (s : Int) < 256 := by omega
          have c2' : ((s : Int) == 256) = false := by simp; omega
          have HP1 := hide (rput_ok R1.out s c1)
          by_cases cr : o.length + 1 ≤ most
          · rw [rput_room cr] at HP1
            have HP2 := hide (parts_more HP.out ((part_lit HS.out c1).trans (if_pos cr)))
            go_wp2_with fail
            refine HP1.out.mono ?_
            rintro x w2 ⟨rfl, ov2, r2, k2⟩
            have m2 := hide r2.errOf
            have m3 := hide r2.posOf
            go_wp2
            go_roundw
            case rel =>
              obtain ⟨t1, t2⟩ := HTK1.out w2 k2
              exact ⟨_, _, _, 0, r2, Or.inl ⟨rfl, hq1, HP2.out, fun y hy => by
                rcases List.mem_append.1 hy with hy | hy
                · exact HBY.out y hy
                · simp at hy; omega⟩, t1, t2, K1.out.trans k2⟩
            case measure => rw [mr.out, me.out, m2.out, m3.out]; simp; omega
          · rw [rput_full cr] at HP1
            have HP2 := hide (parts_err HP.out ((part_lit HS.out c1).trans (if_neg cr)))
            go_wp2_with fail
            refine HP1.out.mono ?_
            rintro x w2 ⟨rfl, ov2, r2, k2⟩
            have m2 := hide r2.errOf
            go_wp2
            go_roundw
            case rel =>
              obtain ⟨t1, t2⟩ := HTK1.out w2 k2
              exact ⟨_, _, _, 6, r2, Or.inr ⟨by omega, HP2.out⟩, t1, t2, K1.out.trans k2⟩
            case measure => rw [mr.out, me.out, m2.out]; simp; omega
        · by_cases c2 : s = 256
          · subst c2
            have HP2 := hide (parts_stop HP.out (part_stop HS.out))
            go_wp2
            refine bodyPost_ret (v := .tuple #[]) (by simp [results, Tryz.results209, go_sem]) rfl ?_
            exact ⟨rfl, q1, ov', o, 0, R1.out, by rw [HP2.out]; exact ⟨rfl, rfl, rfl, hq1, HBY.out⟩, K1.out⟩
          · have c1' : ¬ (s : Int) < 256 := by omega
            have c2' : ((s : Int) == 256) = false := by simp; omega
            by_cases c3 : 285 < s
            · have c3' : (285 : Int) < s := by omega
              have HP2 := hide (parts_err HP.out (part_big HS.out c3))
              go_wp2_with fail
              refine (rno_ok R1.out 5 (by omega)).mono ?_
              rintro x w2 ⟨rfl, r2, k2⟩
              rw [rno_zero] at r2
              go_wp2
              refine bodyPost_ret (v := .tuple #[]) (by simp [results, Tryz.results209, go_sem]) rfl ?_
              exact ⟨rfl, _, _, _, _, r2, by rw [HP2.out]; exact ⟨rfl, by omega⟩, K1.out.trans k2⟩
            · have c3' : ¬ (285 : Int) < s := by omega
              have es : (s : Int) - 257 = ((s - 257 : Nat) : Int) := by omega
              have hls := lenSpan_le ⟨s, by omega⟩ (by show 257 ≤ s; omega)
              simp only [] at hls
              have HM4 := hide (more4_ok (s - 257) (by omega))
              by_cases c285 : s = 285
              · subst c285
                rw [show 285 - 257 = 28 from rfl] at HM4
                rw [lenSpan_285] at hls
                have hLN : (Fo.lenSpan 285).2 = 0 := by rw [lenSpan_285]
                have hLV : (Fo.lenSpan 285).1 = 258 := by rw [lenSpan_285]
                go_wp2_with fail
                refine (HM4.out _).mono ?_
                rintro x w2 ⟨rfl, nq2, rfl⟩
                have R2 := hide (R1.out.drewN nq2)
                have K2 := hide (K1.out.drewN nq2)
                have HTK2 : Hid (∀ w', Kept 5 B [b] (w1.drewN nq2) w' → TreeOk w' b1 c.cs c.ss M ∧ TreeOk w' b2 c.cd c.sd 32) := fun w' k => HTK1.out w' (((Kept.refl _ _ _ _).drewN nq2).trans k)
                clear R1 K1 HTK1
                generalize w1.drewN nq2 = w2 at *
                go_wp2_with fail
                refine (rbits_any (R2.out) 0 (by omega)).mono ?_
                rintro x w3 ⟨x3, q3, e3, rfl, r3, B3, hx3, k3⟩
                have hx3' : x3 < 32 := by
                  have : 2 ^ 0 ≤ 2 ^ 5 := Nat.pow_le_pow_right (by omega) (by omega)
                  omega
                have hT3 := (HTK2.out w3 k3).2
                have HS3 := hide (rsymbol_any r3 (fun h0 => by
                  rcases B3.out with ⟨h, _⟩ | ⟨_, h2, _, rfl, _⟩ | ⟨_, _, _, _, h5⟩
                  · exact absurd rfl h
                  · exact h2
                  · omega) hT3 (by omega))
                clear hx3
                go_wp2_with fail
                refine HS3.out.mono ?_
                rintro x w4 ⟨t, q4, e4, rfl, r4, S4, hv4, k4⟩
                have ht32 : t ≤ 32 := by
                  rcases hv4 with h | h
                  · exact h
                  · obtain ⟨r', hr'⟩ := h.out
                    exact HCD.out _ _ _ hr'
                have K4 := hide (((K2.out.trans k3)).trans k4)
                have HTK4 : Hid (∀ w', Kept 5 B [b] w4 w' → TreeOk w' b1 c.cs c.ss M ∧ TreeOk w' b2 c.cd c.sd 32) := fun w' k => HTK2.out w' ((k3.trans k4).trans k)
                clear hv4 HS3 hT3 r3 k3 k4 HTK2 K2
                have hmn : moreN 2 t ≤ 15 := by unfold moreN; split <;> omega
                have hmv := moreV_le ⟨t, by omega⟩
                simp only [] at hmv
                by_cases c29 : 29 < t
                · have c29' : (29 : Int) < t := by omega
                  go_wp2_with fail
                  refine (rno_ok r4 5 (by omega)).mono ?_
                  rintro x w5 ⟨rfl, r5, k5⟩
                  have E3 : rno 5 e4 = if 29 < t then rno 5 e4 else e4 := by rw [if_pos c29]
                  have K5 := hide (K4.out.trans k5)
                  have HTK5 : Hid (∀ w', Kept 5 B [b] w5 w' → TreeOk w' b1 c.cs c.ss M ∧ TreeOk w' b2 c.cd c.sd 32) := fun w' k => HTK4.out w' (k5.trans k)
                  clear r4 K4 HTK4 k5
                  have HM2 := hide (more2_ok t (by omega))
                  generalize hMN : moreN 2 t = MN at *
                  generalize hMV : moreV 2 1 t = MV at *
                  go_wp2_with fail
                  refine (HM2.out _).mono ?_
                  rintro x w6 ⟨rfl, nqm, rfl⟩
                  go_wp2_with fail
                  refine (rbits_any (r5.drewN nqm) MN (by omega)).mono ?_
                  rintro x w7 ⟨y7, q7, e7, rfl, r7, B7, hy7, k7⟩
                  have hy7' : y7 < 32768 := by
                    have : 2 ^ MN ≤ 2 ^ 15 := Nat.pow_le_pow_right (by omega) hmn
                    omega
                  have K7 := hide ((K5.out.drewN nqm).trans k7)
                  have HTK7 : Hid (∀ w', Kept 5 B [b] w7 w' → TreeOk w' b1 c.cs c.ss M ∧ TreeOk w' b2 c.cd c.sd 32) := fun w' k => HTK5.out w' (((Kept.refl _ _ _ _).drewN nqm).trans (k7.trans k))
                  have HCP := hide (copies_any r7 (258 + x3) (MV + y7) window (by omega) (by omega) (by omega) hw HBY.out)
                  clear hy7 k7 HTK5 K5
                  go_wp2_with fail
                  refine HCP.out.mono ?_
                  rintro x w8 ⟨rfl, ov8, o8, e8, r8, C8, k8⟩
                  have HTP : Hid ((e8 = 0 → Fo.part c window most (rest4 S q) o = .ok (true, rest4 S q7, o8) ∧ q7 ≤ 8 * S.size ∧ o8 = Fo.copy (MV + y7) (258 + x3) o ∧ MV + y7 ≤ o.length) ∧ (e8 ≠ 0 → Fo.part c window most (rest4 S q) o = .error e8)) := by
                    have b3 := B3.out
                    have b7 := B7.out
                    have c8 := C8.out
                    rw [← hMN] at b7
                    rw [← hMV] at c8 ⊢
                    rw [← hLV] at c8 ⊢
                    rw [← hLN] at b3
                    exact tail_part HS.out (by omega) (by omega) hq1 b3 S4.out E3 b7 c8
                  have m8 := hide r8.errOf
                  have m9 := hide r8.posOf
                  clear HCP C8 B7
                  go_wp2
                  go_roundw
                  case rel =>
                    obtain ⟨t1, t2⟩ := HTK7.out w8 k8
                    refine ⟨_, _, _, e8, r8, ?_, t1, t2, K7.out.trans k8⟩
                    by_cases h8 : e8 = 0
                    · obtain ⟨g1, g2, g3, g4⟩ := HTP.out.1 h8
                      exact Or.inl ⟨h8, g2, parts_more HP.out g1, by rw [g3]; exact copy_byte _ (by omega) g4 HBY.out _⟩
                    · exact Or.inr ⟨h8, parts_err HP.out (HTP.out.2 h8)⟩
                  case measure =>
                    rw [mr.out, me.out, m8.out, m9.out]
                    by_cases h8 : e8 = 0
                    · obtain ⟨g1, g2, g3, g4⟩ := HTP.out.1 h8
                      have hsh2 := Fo.part_shorter g1
                      rw [rest4_len, rest4_len] at hsh2
                      simp only [if_true, if_pos h8]; omega
                    · simp only [if_true, if_neg h8]; omega
                · have c29' : ¬ (29 : Int) < t := by omega
                  have r5 := r4
                  have E3 : e4 = if 29 < t then rno 5 e4 else e4 := by rw [if_neg c29]
                  have K5 := K4
                  have HTK5 := HTK4
                  clear r4 K4 HTK4
                  have HM2 := hide (more2_ok t (by omega))
                  generalize hMN : moreN 2 t = MN at *
                  generalize hMV : moreV 2 1 t = MV at *
                  go_wp2_with fail
                  refine (HM2.out _).mono ?_
                  rintro x w6 ⟨rfl, nqm, rfl⟩
                  go_wp2_with fail
                  refine (rbits_any (r5.drewN nqm) MN (by omega)).mono ?_
                  rintro x w7 ⟨y7, q7, e7, rfl, r7, B7, hy7, k7⟩
                  have hy7' : y7 < 32768 := by
                    have : 2 ^ MN ≤ 2 ^ 15 := Nat.pow_le_pow_right (by omega) hmn
                    omega
                  have K7 := hide ((K5.out.drewN nqm).trans k7)
                  have HTK7 : Hid (∀ w', Kept 5 B [b] w7 w' → TreeOk w' b1 c.cs c.ss M ∧ TreeOk w' b2 c.cd c.sd 32) := fun w' k => HTK5.out w' (((Kept.refl _ _ _ _).drewN nqm).trans (k7.trans k))
                  have HCP := hide (copies_any r7 (258 + x3) (MV + y7) window (by omega) (by omega) (by omega) hw HBY.out)
                  clear hy7 k7 HTK5 K5
                  go_wp2_with fail
                  refine HCP.out.mono ?_
                  rintro x w8 ⟨rfl, ov8, o8, e8, r8, C8, k8⟩
                  have HTP : Hid ((e8 = 0 → Fo.part c window most (rest4 S q) o = .ok (true, rest4 S q7, o8) ∧ q7 ≤ 8 * S.size ∧ o8 = Fo.copy (MV + y7) (258 + x3) o ∧ MV + y7 ≤ o.length) ∧ (e8 ≠ 0 → Fo.part c window most (rest4 S q) o = .error e8)) := by
                    have b3 := B3.out
                    have b7 := B7.out
                    have c8 := C8.out
                    rw [← hMN] at b7
                    rw [← hMV] at c8 ⊢
                    rw [← hLV] at c8 ⊢
                    rw [← hLN] at b3
                    exact tail_part HS.out (by omega) (by omega) hq1 b3 S4.out E3 b7 c8
                  have m8 := hide r8.errOf
                  have m9 := hide r8.posOf
                  clear HCP C8 B7
                  go_wp2
                  go_roundw
                  case rel =>
                    obtain ⟨t1, t2⟩ := HTK7.out w8 k8
                    refine ⟨_, _, _, e8, r8, ?_, t1, t2, K7.out.trans k8⟩
                    by_cases h8 : e8 = 0
                    · obtain ⟨g1, g2, g3, g4⟩ := HTP.out.1 h8
                      exact Or.inl ⟨h8, g2, parts_more HP.out g1, by rw [g3]; exact copy_byte _ (by omega) g4 HBY.out _⟩
                    · exact Or.inr ⟨h8, parts_err HP.out (HTP.out.2 h8)⟩
                  case measure =>
                    rw [mr.out, me.out, m8.out, m9.out]
                    by_cases h8 : e8 = 0
                    · obtain ⟨g1, g2, g3, g4⟩ := HTP.out.1 h8
                      have hsh2 := Fo.part_shorter g1
                      rw [rest4_len, rest4_len] at hsh2
                      simp only [if_true, if_pos h8]; omega
                    · simp only [if_true, if_neg h8]; omega
              · obtain ⟨hm1, hm2⟩ := more_len ⟨s, by omega⟩ (by show 257 ≤ s; omega) c285
                simp only [] at hm1 hm2
                rw [hm1, hm2] at HM4
                have c285' : ((s : Int) == 285) = false := by simp; omega
                generalize hLN : (Fo.lenSpan s).2 = LN at *
                generalize hLV : (Fo.lenSpan s).1 = LV at *
                clear hm1 hm2
                go_wp2_with fail
                refine (HM4.out _).mono ?_
                rintro x w2 ⟨rfl, nq2, rfl⟩
                have R2 := hide (R1.out.drewN nq2)
                have K2 := hide (K1.out.drewN nq2)
                have HTK2 : Hid (∀ w', Kept 5 B [b] (w1.drewN nq2) w' → TreeOk w' b1 c.cs c.ss M ∧ TreeOk w' b2 c.cd c.sd 32) := fun w' k => HTK1.out w' (((Kept.refl _ _ _ _).drewN nq2).trans k)
                clear R1 K1 HTK1
                generalize w1.drewN nq2 = w2 at *
                go_wp2_with fail
                refine (rbits_any (R2.out) LN (by omega)).mono ?_
                rintro x w3 ⟨x3, q3, e3, rfl, r3, B3, hx3, k3⟩
                have hx3' : x3 < 32 := by
                  have : 2 ^ LN ≤ 2 ^ 5 := Nat.pow_le_pow_right (by omega) (by omega)
                  omega
                have hT3 := (HTK2.out w3 k3).2
                have HS3 := hide (rsymbol_any r3 (fun h0 => by
                  rcases B3.out with ⟨h, _⟩ | ⟨_, h2, _, rfl, _⟩ | ⟨_, _, _, _, h5⟩
                  · exact absurd rfl h
                  · exact h2
                  · omega) hT3 (by omega))
                clear hx3
                go_wp2_with fail
                refine HS3.out.mono ?_
                rintro x w4 ⟨t, q4, e4, rfl, r4, S4, hv4, k4⟩
                have ht32 : t ≤ 32 := by
                  rcases hv4 with h | h
                  · exact h
                  · obtain ⟨r', hr'⟩ := h.out
                    exact HCD.out _ _ _ hr'
                have K4 := hide (((K2.out.trans k3)).trans k4)
                have HTK4 : Hid (∀ w', Kept 5 B [b] w4 w' → TreeOk w' b1 c.cs c.ss M ∧ TreeOk w' b2 c.cd c.sd 32) := fun w' k => HTK2.out w' ((k3.trans k4).trans k)
                clear hv4 HS3 hT3 r3 k3 k4 HTK2 K2
                have hmn : moreN 2 t ≤ 15 := by unfold moreN; split <;> omega
                have hmv := moreV_le ⟨t, by omega⟩
                simp only [] at hmv
                by_cases c29 : 29 < t
                · have c29' : (29 : Int) < t := by omega
                  go_wp2_with fail
                  refine (rno_ok r4 5 (by omega)).mono ?_
                  rintro x w5 ⟨rfl, r5, k5⟩
                  have E3 : rno 5 e4 = if 29 < t then rno 5 e4 else e4 := by rw [if_pos c29]
                  have K5 := hide (K4.out.trans k5)
                  have HTK5 : Hid (∀ w', Kept 5 B [b] w5 w' → TreeOk w' b1 c.cs c.ss M ∧ TreeOk w' b2 c.cd c.sd 32) := fun w' k => HTK4.out w' (k5.trans k)
                  clear r4 K4 HTK4 k5
                  have HM2 := hide (more2_ok t (by omega))
                  generalize hMN : moreN 2 t = MN at *
                  generalize hMV : moreV 2 1 t = MV at *
                  go_wp2_with fail
                  refine (HM2.out _).mono ?_
                  rintro x w6 ⟨rfl, nqm, rfl⟩
                  go_wp2_with fail
                  refine (rbits_any (r5.drewN nqm) MN (by omega)).mono ?_
                  rintro x w7 ⟨y7, q7, e7, rfl, r7, B7, hy7, k7⟩
                  have hy7' : y7 < 32768 := by
                    have : 2 ^ MN ≤ 2 ^ 15 := Nat.pow_le_pow_right (by omega) hmn
                    omega
                  have K7 := hide ((K5.out.drewN nqm).trans k7)
                  have HTK7 : Hid (∀ w', Kept 5 B [b] w7 w' → TreeOk w' b1 c.cs c.ss M ∧ TreeOk w' b2 c.cd c.sd 32) := fun w' k => HTK5.out w' (((Kept.refl _ _ _ _).drewN nqm).trans (k7.trans k))
                  have HCP := hide (copies_any r7 (LV + x3) (MV + y7) window (by omega) (by omega) (by omega) hw HBY.out)
                  clear hy7 k7 HTK5 K5
                  go_wp2_with fail
                  refine HCP.out.mono ?_
                  rintro x w8 ⟨rfl, ov8, o8, e8, r8, C8, k8⟩
                  have HTP : Hid ((e8 = 0 → Fo.part c window most (rest4 S q) o = .ok (true, rest4 S q7, o8) ∧ q7 ≤ 8 * S.size ∧ o8 = Fo.copy (MV + y7) (LV + x3) o ∧ MV + y7 ≤ o.length) ∧ (e8 ≠ 0 → Fo.part c window most (rest4 S q) o = .error e8)) := by
                    have b3 := B3.out
                    have b7 := B7.out
                    have c8 := C8.out
                    rw [← hMN] at b7
                    rw [← hMV] at c8 ⊢
                    rw [← hLV] at c8 ⊢
                    rw [← hLN] at b3
                    exact tail_part HS.out (by omega) (by omega) hq1 b3 S4.out E3 b7 c8
                  have m8 := hide r8.errOf
                  have m9 := hide r8.posOf
                  clear HCP C8 B7
                  go_wp2
                  go_roundw
                  case rel =>
                    obtain ⟨t1, t2⟩ := HTK7.out w8 k8
                    refine ⟨_, _, _, e8, r8, ?_, t1, t2, K7.out.trans k8⟩
                    by_cases h8 : e8 = 0
                    · obtain ⟨g1, g2, g3, g4⟩ := HTP.out.1 h8
                      exact Or.inl ⟨h8, g2, parts_more HP.out g1, by rw [g3]; exact copy_byte _ (by omega) g4 HBY.out _⟩
                    · exact Or.inr ⟨h8, parts_err HP.out (HTP.out.2 h8)⟩
                  case measure =>
                    rw [mr.out, me.out, m8.out, m9.out]
                    by_cases h8 : e8 = 0
                    · obtain ⟨g1, g2, g3, g4⟩ := HTP.out.1 h8
                      have hsh2 := Fo.part_shorter g1
                      rw [rest4_len, rest4_len] at hsh2
                      simp only [if_true, if_pos h8]; omega
                    · simp only [if_true, if_neg h8]; omega
                · have c29' : ¬ (29 : Int) < t := by omega
                  have r5 := r4
                  have E3 : e4 = if 29 < t then rno 5 e4 else e4 := by rw [if_neg c29]
                  have K5 := K4
                  have HTK5 := HTK4
                  clear r4 K4 HTK4
                  have HM2 := hide (more2_ok t (by omega))
                  generalize hMN : moreN 2 t = MN at *
                  generalize hMV : moreV 2 1 t = MV at *
                  go_wp2_with fail
                  refine (HM2.out _).mono ?_
                  rintro x w6 ⟨rfl, nqm, rfl⟩
                  go_wp2_with fail
                  refine (rbits_any (r5.drewN nqm) MN (by omega)).mono ?_
                  rintro x w7 ⟨y7, q7, e7, rfl, r7, B7, hy7, k7⟩
                  have hy7' : y7 < 32768 := by
                    have : 2 ^ MN ≤ 2 ^ 15 := Nat.pow_le_pow_right (by omega) hmn
                    omega
                  have K7 := hide ((K5.out.drewN nqm).trans k7)
                  have HTK7 : Hid (∀ w', Kept 5 B [b] w7 w' → TreeOk w' b1 c.cs c.ss M ∧ TreeOk w' b2 c.cd c.sd 32) := fun w' k => HTK5.out w' (((Kept.refl _ _ _ _).drewN nqm).trans (k7.trans k))
                  have HCP := hide (copies_any r7 (LV + x3) (MV + y7) window (by omega) (by omega) (by omega) hw HBY.out)
                  clear hy7 k7 HTK5 K5
                  go_wp2_with fail
                  refine HCP.out.mono ?_
                  rintro x w8 ⟨rfl, ov8, o8, e8, r8, C8, k8⟩
                  have HTP : Hid ((e8 = 0 → Fo.part c window most (rest4 S q) o = .ok (true, rest4 S q7, o8) ∧ q7 ≤ 8 * S.size ∧ o8 = Fo.copy (MV + y7) (LV + x3) o ∧ MV + y7 ≤ o.length) ∧ (e8 ≠ 0 → Fo.part c window most (rest4 S q) o = .error e8)) := by
                    have b3 := B3.out
                    have b7 := B7.out
                    have c8 := C8.out
                    rw [← hMN] at b7
                    rw [← hMV] at c8 ⊢
                    rw [← hLV] at c8 ⊢
                    rw [← hLN] at b3
                    exact tail_part HS.out (by omega) (by omega) hq1 b3 S4.out E3 b7 c8
                  have m8 := hide r8.errOf
                  have m9 := hide r8.posOf
                  clear HCP C8 B7
                  go_wp2
                  go_roundw
                  case rel =>
                    obtain ⟨t1, t2⟩ := HTK7.out w8 k8
                    refine ⟨_, _, _, e8, r8, ?_, t1, t2, K7.out.trans k8⟩
                    by_cases h8 : e8 = 0
                    · obtain ⟨g1, g2, g3, g4⟩ := HTP.out.1 h8
                      exact Or.inl ⟨h8, g2, parts_more HP.out g1, by rw [g3]; exact copy_byte _ (by omega) g4 HBY.out _⟩
                    · exact Or.inr ⟨h8, parts_err HP.out (HTP.out.2 h8)⟩
                  case measure =>
                    rw [mr.out, me.out, m8.out, m9.out]
                    by_cases h8 : e8 = 0
                    · obtain ⟨g1, g2, g3, g4⟩ := HTP.out.1 h8
                      have hsh2 := Fo.part_shorter g1
                      rw [rest4_len, rest4_len] at hsh2
                      simp only [if_true, if_pos h8]; omega
                    · simp only [if_true, if_neg h8]; omega
      · have HP2 := hide (parts_err HP.out (part_none hs1))
        have d5 : ((5 : Int) == 0) = false := by decide
        clear HSY hs1 hv1
        go_wp2
        refine bodyPost_ret (v := .tuple #[]) (by simp [results, Tryz.results209, go_sem]) rfl ?_
        exact ⟨rfl, _, _, _, _, r1, by rw [HP2.out]; exact ⟨rfl, by omega⟩, kk.trans k1⟩
    · have he' : ((e : Int) == 0) = false := by simp; omega
      have HRR := hide hR
      clear hR HST
      go_wp2
      go_end0
      exact ⟨rfl, q, ov', o, e, r, by rw [HRR.out]; exact ⟨rfl, he⟩, kk⟩
end Go.Proofs.YtgkljcmjnphpeaaGreatDoor
namespace Go.Proofs.YtgkljcmjnphpeaaGreatDoor
open Go.RowKit
variable {B b : Nat} {S : ByteArray} {most : Nat} {w : World} {p : Nat} {ov : Value} {out : List Nat} {e : Nat}
theorem RIn.keptI {w' : World} {B' : Nat} (h : RIn B b S most w p ov out e) (k : Kept 3 B' [] w w') : RIn B b S most w' p ov out e := by
  refine ⟨h.hb, k.block b _ (by simp) h.blk (Or.inr (by intro c fz e; simp at e)), ?_, h.lm, h.ls, h.lp, h.lo, h.le⟩
  obtain ⟨h1, h2⟩ := h.own
  refine ⟨h1, ?_⟩
  rcases h2 with h2 | ⟨g, c, cur, e1, e2, hh, hc⟩
  · exact Or.inl h2
  · exact Or.inr ⟨g, c, cur, e1, e2, k.block g _ (by simp) hh (Or.inr (by intro c fz e; simp at e)), hc⟩
theorem TreeOk.keptI {w' : World} {B' bt M : Nat} {cs ss : List Nat} (h : TreeOk w bt cs ss M) (k : Kept 3 B' [] w w') : TreeOk w' bt cs ss M := by
  obtain ⟨T, m, ⟨g, c, cur, fz, fz2, h1, h2, h3⟩, h4⟩ := h.ex
  exact ⟨T, m, ⟨g, c, cur, fz, fz2, k.block bt _ (by simp) h1 (Or.inr (by intro c' fz' e; simp at e)), k.block g _ (by simp) h2 (Or.inr (by intro c' fz' e; simp at e)), h3⟩, h4⟩
theorem TreeOk.below {w' : World} {bt M : Nat} {cs ss : List Nat} (h : TreeOk w bt cs ss M) (k : Below w.heap.size w w') : TreeOk w' bt cs ss M := by
  obtain ⟨T, m, ⟨g, c, cur, fz, fz2, h1, h2, h3⟩, h4⟩ := h.ex
  exact ⟨T, m, ⟨g, c, cur, fz, fz2, by rw [k.block _ (lt_of_block h1)]; exact h1, by rw [k.block _ (lt_of_block h2)]; exact h2, h3⟩, h4⟩
theorem newsI1 {w : World} {x : Int} : ∀ j u, ([Value.int .i64 x] : List Value)[j]? = some u → (w.alloc (.cells #[.int .i64 x] 3)).cell? ((⟨w.heap.size, 0, none⟩ : Addr).add j) = some u := by
  intro j u hu
  match j, hu with
  | 0, hu => exact (World.cell?_alloc_new _ _ _ _).trans hu
  | j + 1, hu => simp at hu
theorem repeat_ok (lv : Value) (L : List Nat) (own : w.ownsRow B 3 1 lv L.length (ints L)) (hB : B ≤ w.heap.size) (n x : Nat) (hn : n ≤ 1000) (hL : L.length ≤ 10000) :
    Calls Tryz.prog 207 #[lv, .int .i64 n, .int .i64 x] w fun y w' => ∃ v', y = .returned v' ∧ w'.ownsRow B 3 1 v' (L.length + n) (ints (L ++ List.replicate n x)) ∧ Kept 3 B [] w w' := by
  obtain ⟨i0, hi, hz0, hz1, hz2⟩ := info_parts Tryz.infoInt
  go_enter Tryz.func207, Tryz.ntmps207
  go_wp2
  go_loopw [0, 7] (fun vl vi wr => ∃ j : Nat, j ≤ n ∧ vi = .int .i64 j ∧ wr.ownsRow B 3 1 vl (L.length + j) (ints (L ++ List.replicate j x)) ∧ Kept 3 B [] w wr) (fun _ vi _ => n - (intOf vi).toNat)
  case atStart => exact ⟨0, Nat.zero_le _, rfl, by simpa using own, Kept.refl _ _ _ _⟩
  clear own
  case round =>
    obtain ⟨j, hj, rfl, ow, kk⟩ := hrel
    have hsz := kk.size
    obtain ⟨a0, c0, rfl⟩ := own_slice ow
    have OW := hide ow
    have KK := hide kk
    clear ow kk
    by_cases cj : j < n
    · have cj' : (j : Int) < n := by omega
      go_wp2_with (at_builtin; refine wpList_append_own _ rfl (.tmp 13) (.tmp 15) 52 rfl B 3 i0 (.int .i64 0) 1 8 Tryz.underlying52 hi hz0 hz1 hz2 rfl (by decide) (.slice a0 (L.length + j) c0) (L.length + j) _ rfl (OW.out.alloc _) ⟨wr.heap.size, 0, none⟩ 1 1 [.int .i64 (x : Int)] rfl rfl ?hnews ?hone ?h63 ?hby ?hbs ?_)
      case hnews => exact newsI1
      case hone => intro u hu; simp at hu; subst hu; rfl
      case h63 => unfold maxLen; omega
      case hby => omega
      case hbs => simp; omega
      intro v2 w2 own2 hg2 _
      have K2 := hide ((KK.out.alloc _).grown hg2 (own_row (OW.out.alloc _)))
      have hex : ints (L ++ List.replicate j x) ++ [.int .i64 (x : Int)] = ints (L ++ List.replicate (j + 1) x) := by
        rw [List.replicate_succ', ← List.append_assoc]
        simp [ints]
      rw [hex] at own2
      have O2 := hide own2
      obtain ⟨a2, c2, hv2⟩ := own_slice own2
      subst hv2
      clear own2 hg2 hex
      go_wp2
      go_roundw
      case rel => exact ⟨j + 1, by omega, by go_num, O2.out, K2.out⟩
      case measure => simp [intOf]; omega
    · obtain rfl : j = n := by omega
      have cj' : ¬ (j : Int) < j := by omega
      go_wp2
      go_ret
      exact ⟨_, rfl, OW.out, KK.out⟩
theorem symG_mem (cf : Nat → Nat) (ss : List Nat) (K : Nat) (hK : ∀ x ∈ ss, x ≤ K) : ∀ (k len d place : Nat) (r : List Bool) (s : Nat) (r' : List Bool), Fo.symG cf ss k len d place r = some (s, r') → s ≤ K
  | 0, _, _, _, _, _, _, h => by simp [Fo.symG] at h
  | k + 1, _, _, _, [], _, _, h => by simp [Fo.symG] at h
  | k + 1, len, d, place, x :: r, s, r', h => by
    simp only [Fo.symG] at h
    by_cases c : 2 * d + x.toNat < cf len
    · rw [if_pos c] at h
      simp only [Option.some.injEq, Prod.mk.injEq] at h
      rw [← h.1, List.getD_eq_getElem?_getD]
      by_cases hl : place + (2 * d + x.toNat) < ss.length
      · rw [List.getElem?_eq_getElem hl]; exact hK _ (List.getElem_mem hl)
      · rw [List.getElem?_eq_none (by omega)]; exact Nat.zero_le _
    · rw [if_neg c] at h
      exact symG_mem cf ss K hK k _ _ _ r s r' h
theorem sym_mem {cs ss : List Nat} {K : Nat} (hK : ∀ x ∈ ss, x ≤ K) (r : List Bool) (s : Nat) (r' : List Bool) (h : Fo.sym cs ss r = some (s, r')) : s ≤ K := by
  rw [Fo.sym_eq] at h
  exact symG_mem _ ss K hK _ _ _ _ r s r' h
theorem fixed_kr : Fo.kr (fun k => Fo.lensFixed.count k) 15 = 32768 ∧ Fo.kr (fun k => Fo.distFixed.count k) 15 = 32768 := by decide +kernel
theorem fixed_ss : (∀ x ∈ Fo.ssF, x ≤ 288) ∧ (∀ x ∈ Fo.sdF, x ≤ 32) := by decide +kernel
theorem fixed_lens : ([] ++ List.replicate 144 8 ++ List.replicate 112 9 ++ List.replicate 24 7 ++ List.replicate 8 8 = Fo.lensFixed) ∧ [] ++ List.replicate 32 5 = Fo.distFixed := ⟨rfl, rfl⟩
theorem fixed_small : (∀ i, i < 288 → nth Fo.lensFixed i < 16) ∧ ∀ i, i < 32 → nth Fo.distFixed i < 16 := by
  have h1 : ∀ i : Fin 288, nth Fo.lensFixed i.val < 16 := by decide +kernel
  have h2 : ∀ i : Fin 32, nth Fo.distFixed i.val < 16 := by decide +kernel
  exact ⟨fun i hi => h1 ⟨i, hi⟩, fun i hi => h2 ⟨i, hi⟩⟩
theorem GrownTo.ok {l : List Nat} {T : List (Int × Int)} {full bt : Nat} (h : GrownTo l T full) (hT : TreeIn w bt T) (hk : Fo.kr (fun k => l.count k) 15 ≤ 32768) : TreeOk w bt (cz l) (Fo.ssOf l) l.length := by
  rcases h with ⟨_, _, h1, h2, h3⟩ | ⟨_, h⟩
  · exact ⟨T, 16, hT, h1, h2, h3⟩
  · omega
end Go.Proofs.YtgkljcmjnphpeaaGreatDoor
