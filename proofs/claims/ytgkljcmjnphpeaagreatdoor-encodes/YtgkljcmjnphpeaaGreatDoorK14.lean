/- The document's answer: filter 4: bits. -/
import Derived.Test.YtgkljcmjnphpeaaGreatDoorK13
import Derived.Test.YtgkljcmjnphpeaaGreatDoorK02
set_option linter.unusedVariables false
set_option linter.unusedSimpArgs false
namespace Go.Proofs.YtgkljcmjnphpeaaGreatDoor
open Go.RowKit
variable {B b : Nat} {S : ByteArray} {most : Nat} {w : World} {p : Nat} {ov : Value} {out : List Nat} {e : Nat}
theorem bl_nthI (S : ByteArray) (i : Int) (n : Nat) (hi : i.toNat = n) (h : i.toNat < S.size) : (S[i.toNat]'h).toNat = nth (bl S) n := by
  subst hi; exact bl_nth S _ h
theorem take_next (d : List Nat) (p j : Nat) (h : p + j < d.length) : (d.drop p).take (j + 1) = (d.drop p).take j ++ [nth d (p + j)] := by
  have hl : j < (d.drop p).length := by rw [List.length_drop]; omega
  rw [List.take_succ_eq_append_getElem hl]
  congr 2
  rw [List.getElem_drop]
  simp [nth, h]
set_option maxRecDepth 100000 in
set_option maxHeartbeats 2000000 in
theorem rrun_ok (h : RIn B b S most w p ov out 0) (hp : p ≤ S.size) (R : Except Nat (List Nat)) (f : Nat) (hf : S.size - p < f) (hR : runDec (bl S) most f p out = R) :
    Calls Tryz.prog 76 #[.pointer (some ⟨b, 0, none⟩)] w fun x w' => x = .returned (.tuple #[]) ∧ ∃ p' ov' o e, RIn B b S most w' p' ov' o e ∧ RRes R o e ∧ Kept 5 B [b] w w' := by
  have hl := bl_len S
  go_enter Tryz.func76, Tryz.ntmps76
  go_wp2
  go_loopw [2] (fun _ wr => ∃ (q : Nat) (ov' : Value) (o : List Nat) (e : Nat), RIn B b S most wr q ov' o e ∧ Hid (RSt (runDec (bl S) most) S.size R q o e) ∧ Kept 5 B [b] w wr) (fun _ wr => if errOf b wr = 0 then S.size + 1 - posOf b wr else 0)
  case atStart => exact ⟨p, ov, out, 0, h, Or.inl ⟨rfl, hp, f, hR, hf⟩, Kept.refl _ _ _ _⟩
  clear h hR hf hp
  case round =>
    obtain ⟨q, ov', o, e, r, HST, kk⟩ := hrel
    have mr := hide r.posOf
    have me := hide r.errOf
    have c4 := r.c4
    rcases HST.out with ⟨rfl, hq, f', hdec, hff⟩ | ⟨he, hR⟩
    · obtain ⟨f'', rfl⟩ : ∃ f'', f' = f'' + 1 := ⟨f' - 1, by omega⟩
      have HLL := hide hl
      have c0 := r.c0
      have c1' := r.c1
      have f1 := r.fz 1
      have lo := r.lo
      have ls := r.ls
      simp only [runDec] at hdec
      clear HST
      by_cases c1 : (bl S).length ≤ q
      · rw [if_pos c1] at hdec
        have HR := hide hdec
        have d1 : (S.size : Int) ≤ (q : Int) := by omega
        clear hdec c1
        go_wp2_with fail
        go_quiet (fail)
        go_wp2_with fail
        refine (rno_ok (r.drewN nq) 5 (by omega)).mono ?_
        rintro x w2 ⟨rfl, r2, k2⟩
        rw [rno_zero] at r2
        go_wp2
        refine bodyPost_ret (v := .tuple #[]) (by simp [results, Tryz.results76, go_sem]) rfl ?_
        exact ⟨rfl, _, _, _, _, r2, by rw [← HR.out]; exact ⟨rfl, by omega⟩, (kk.drewN nq).trans k2⟩
      · rw [if_neg c1] at hdec
        have d1 : ¬ (S.size : Int) ≤ (q : Int) := by omega
        have d2 : (q : Int) < S.size := by omega
        have hqS : q < S.size := by omega
        have hx := bl_nth S q hqS
        have hX : nth (bl S) q < 256 := bl_lt S _ hqS
        clear c1
        have HRR := hide r
        have HKK := hide kk
        clear r kk
        generalize nth (bl S) q = X at *
        go_wp2_with fail
        go_quiet (fail)
        have R0 := hide (HRR.out.drewN nq)
        have K0 := hide (HKK.out.drewN nq)
        clear HRR HKK
        generalize wr.drewN nq = W0 at *
        have c0 := R0.out.c0
        have c1' := R0.out.c1
        have f1 := R0.out.fz 1
        go_wp2_with fail
        go_quiet (fail)
        have R1 := hide ((R0.out.drewN nq).set1 (q + 1) (by omega))
        have K1 := hide ((K0.out.drewN nq).setCell (p := ⟨b, 1, none⟩) (by simp) (.int .i64 ((q + 1 : Nat) : Int)))
        have eq1 : ((q + 1 : Nat) : Int) = (q : Int) + 1 := by omega
        rw [eq1] at R1 K1
        clear R0 K0
        by_cases c2 : X = 128
        · rw [if_pos c2] at hdec
          subst c2
          by_cases c3 : q + 1 < (bl S).length
          · rw [if_pos c3] at hdec
            have HR := hide hdec
            have d3 : (q : Int) + 1 < S.size := by omega
            clear hdec c3
            go_wp2_with fail
            go_quiet (fail)
            go_wp2_with fail
            refine (rno_ok (R1.out.drewN nq) 5 (by omega)).mono ?_
            rintro x w2 ⟨rfl, r2, k2⟩
            rw [rno_zero] at r2
            go_wp2
            refine bodyPost_ret (v := .tuple #[]) (by simp [results, Tryz.results76, go_sem]) rfl ?_
            exact ⟨rfl, _, _, _, _, r2, by rw [← HR.out]; exact ⟨rfl, by omega⟩, (K1.out.drewN nq).trans k2⟩
          · rw [if_neg c3] at hdec
            have HR := hide hdec
            have d3 : ¬ (q : Int) + 1 < S.size := by omega
            clear hdec c3
            go_wp2_with fail
            go_quiet (fail)
            go_wp2
            refine bodyPost_ret (v := .tuple #[]) (by simp [results, Tryz.results76, go_sem]) rfl ?_
            exact ⟨rfl, _, _, _, _, R1.out.drewN nq, by rw [← HR.out]; exact ⟨rfl, rfl⟩, K1.out.drewN nq⟩
        · rw [if_neg c2] at hdec
          have dX : ((X : Int) == 128) = false := by simp; omega
          by_cases c3 : X < 128
          · rw [if_pos c3] at hdec
            have dX2 : (X : Int) < 128 := by omega
            by_cases c4 : q + 1 + (X + 1) ≤ (bl S).length
            · rw [if_pos c4] at hdec
              have HR := hide hdec
              have d4 : ¬ (S.size : Int) < (q : Int) + 1 + ((X : Int) + 1) := by omega
              clear hdec
              go_wp2_with fail
              go_quiet (fail)
              have R2 := hide (R1.out.drewN nq)
              have K2 := hide (K1.out.drewN nq)
              clear R1 K1
              go_wp2
              obtain ⟨Q, hQ⟩ : ∃ Q, q + 1 = Q := ⟨_, rfl⟩
              have HQ := hide hQ
              rw [hQ] at R2
              have c4' : Q + (X + 1) ≤ S.size := by omega
              go_loopw [4] (fun i wr2 => ∃ (j : Nat) (ov2 : Value), j ≤ X + 1 ∧ i = .int .i64 j ∧ RIn B b S most wr2 Q ov2 (rputs most (((bl S).drop Q).take j) (o, 0)).1 (rputs most (((bl S).drop Q).take j) (o, 0)).2 ∧ Kept 5 B [b] w wr2) (fun i _ => X + 1 - (intOf i).toNat)
              case atStart => exact ⟨0, _, Nat.zero_le _, rfl, by simpa [rputs] using R2.out, K2.out⟩
              clear R2 K2 d4 c4 eq1 hQ
              case round =>
                obtain ⟨j, ov2, hj, rfl, r2, k2⟩ := hrel
                by_cases cj : j < X + 1
                · have cj' : (j : Int) < (X : Int) + 1 := by omega
                  have hjS : Q + j < S.size := by omega
                  have hjw : IntKind.i64.wrap ((Q : Int) + (j : Int)) = ((Q + j : Nat) : Int) := by rw [IntKind.wrap_i64]; omega
                  have hj1 : ((Q + j : Nat) : Int) < S.size := by omega
                  have hj0 : (0 : Int) ≤ ((Q + j : Nat) : Int) := by omega
                  have hx2 : ∀ h, (S[((Q : Int) + (j : Int)).toNat]'h).toNat = nth (bl S) (Q + j) := fun h => bl_nthI S _ _ (by omega) h
                  have hY := bl_lt S (Q + j) hjS
                  have HT := hide (take_next (bl S) Q j (by omega))
                  have HSN := hide (rputs_snoc most (((bl S).drop Q).take j) (nth (bl S) (Q + j)) (o, 0))
                  have g0 := r2.c0
                  have g1 := r2.c1
                  generalize nth (bl S) (Q + j) = Y at *
                  go_wp2_with fail
                  go_region_with (go_at_call 108; refine (rput_any (r2.drewN 1) _ Y (by first | rfl | (rw [hx2]) | omega) hY).mono ?_; rintro x w3 ⟨rfl, ov3, r3, k3⟩)
                  all_goals go_wp2
                  all_goals go_roundw
                  all_goals first | exact ⟨j + 1, ov3, by omega, by go_num, by rw [HT.out, HSN.out]; exact r3, (k2.drewN 1).trans k3⟩ | (simp [intOf]; omega)
                · obtain rfl : j = X + 1 := by omega
                  have hLl : (((bl S).drop Q).take (X + 1)).length = X + 1 := by rw [List.length_take, List.length_drop]; omega
                  by_cases c5 : o.length + (X + 1) ≤ most
                  · rw [rputs_room most _ o (by rw [hLl]; exact c5)] at r2
                    have HR2 := hide (HR.out.symm.trans (if_pos c5))
                    have g1 := r2.c1
                    have g2 := r2.fz 1
                    have R3 := hide (r2.set1 (Q + (X + 1)) (by omega))
                    have K3 := hide (k2.setCell (p := ⟨b, 1, none⟩) (by simp) (.int .i64 (((Q + (X + 1)) : Nat) : Int)))
                    have eN : (((Q + (X + 1)) : Nat) : Int) = (Q : Int) + ((X : Int) + 1) := by omega
                    rw [eN] at R3 K3
                    have m3 := hide R3.out.errOf
                    have m4 := hide R3.out.posOf
                    clear r2 k2
                    go_wp2
                    go_loopw [5] (fun vi wr3 => vi = .int .i64 X ∧ wr3 = wr) (fun _ _ => 0)
                    case atStart => exact ⟨rfl, rfl⟩
                    case round =>
                     obtain ⟨rfl, rfl⟩ := hrel
                     go_wp2
                     go_roundw
                     case rel => exact ⟨_, _, _, 0, R3.out, Or.inl ⟨rfl, by omega, f'', (by rw [← HQ.out] at *; exact HR2.out.symm), by have := HQ.out; omega⟩, K3.out⟩
                     case measure => have hQ2 := HQ.out; rw [mr.out, me.out, m3.out, m4.out]; simp; omega
                  · have hful := rputs_full most (((bl S).drop Q).take (X + 1)) o lo (by rw [hLl]; omega)
                    have HR2 := hide (HR.out.symm.trans (if_neg c5))
                    rw [hful] at r2
                    have g1 := r2.c1
                    have g2 := r2.fz 1
                    have R3 := hide (r2.set1 (Q + (X + 1)) (by omega))
                    have K3 := hide (k2.setCell (p := ⟨b, 1, none⟩) (by simp) (.int .i64 (((Q + (X + 1)) : Nat) : Int)))
                    have eN : (((Q + (X + 1)) : Nat) : Int) = (Q : Int) + ((X : Int) + 1) := by omega
                    rw [eN] at R3 K3
                    have m3 := hide R3.out.errOf
                    clear r2 k2
                    go_wp2
                    go_loopw [5] (fun vi wr3 => vi = .int .i64 X ∧ wr3 = wr) (fun _ _ => 0)
                    case atStart => exact ⟨rfl, rfl⟩
                    case round =>
                     obtain ⟨rfl, rfl⟩ := hrel
                     go_wp2
                     go_roundw
                     case rel => exact ⟨_, _, _, 6, R3.out, Or.inr ⟨by omega, HR2.out⟩, K3.out⟩
                     case measure => rw [mr.out, me.out, m3.out]; simp; omega
            · rw [if_neg c4] at hdec
              have HR := hide hdec
              have d4 : (S.size : Int) < (q : Int) + 1 + ((X : Int) + 1) := by omega
              clear hdec
              go_wp2_with fail
              go_quiet (fail)
              go_wp2_with fail
              refine (rno_ok (R1.out.drewN nq) 5 (by omega)).mono ?_
              rintro x w2 ⟨rfl, r2, k2⟩
              rw [rno_zero] at r2
              go_wp2
              refine bodyPost_ret (v := .tuple #[]) (by simp [results, Tryz.results76, go_sem]) rfl ?_
              exact ⟨rfl, _, _, _, _, r2, by rw [← HR.out]; exact ⟨rfl, by omega⟩, (K1.out.drewN nq).trans k2⟩
          · rw [if_neg c3] at hdec
            have dX2 : ¬ (X : Int) < 128 := by omega
            have dX3 : (128 : Int) < X := by omega
            by_cases c4 : q + 1 < (bl S).length
            · rw [if_pos c4] at hdec
              have HR := hide hdec
              have d4 : ¬ (S.size : Int) < (q : Int) + 1 + 1 := by omega
              clear hdec
              go_wp2_with fail
              go_quiet (fail)
              have R2 := hide (R1.out.drewN nq)
              have K2 := hide (K1.out.drewN nq)
              clear R1 K1
              go_wp2
              obtain ⟨Q, hQ⟩ : ∃ Q, q + 1 = Q := ⟨_, rfl⟩
              have HQ := hide hQ
              rw [hQ] at R2
              have c4' : Q < S.size := by omega
              have c4'' : (Q : Int) < S.size := by omega
              have hx2 := bl_nth S Q c4'
              have hY := bl_lt S Q c4'
              have HYY : Hid (nth (bl S) (q + 1) = nth (bl S) Q) := by rw [hQ]; exact hide rfl
              rw [HYY.out] at HR
              generalize nth (bl S) Q = Y at *
              go_loopw [4] (fun vi wr2 => RIn B b S most wr2 Q ov' o 0 ∧ Kept 5 B [b] w wr2) (fun _ _ => 0)
              case atStart => exact ⟨R2.out, K2.out⟩
              clear R2 K2 d4 c4 eq1 hQ HYY
              case round =>
                obtain ⟨R2, K2⟩ := hrel
                go_wp2
                go_loopw [5] (fun i wr2 => ∃ (j : Nat) (ov2 : Value), j ≤ 257 - X ∧ i = .int .i64 (X + j : Nat) ∧ RIn B b S most wr2 Q ov2 (rputs most (List.replicate j Y) (o, 0)).1 (rputs most (List.replicate j Y) (o, 0)).2 ∧ Kept 5 B [b] w wr2) (fun i _ => 257 - (intOf i).toNat)
                case atStart => exact ⟨0, ov', Nat.zero_le _, rfl, by simpa [rputs] using R2, K2⟩
                clear R2 K2
                case round =>
                  obtain ⟨j, ov2, hj, rfl, r2, k2⟩ := hrel
                  by_cases cj : j < 257 - X
                  · have cj' : ((X + j : Nat) : Int) < 257 := by omega
                    have HT : Hid (List.replicate (j + 1) Y = List.replicate j Y ++ [Y]) := List.replicate_succ'
                    have HSN := hide (rputs_snoc most (List.replicate j Y) Y (o, 0))
                    have g0 := r2.c0
                    have g1 := r2.c1
                    go_wp2_with fail
                    go_region_with (go_at_call 108; refine (rput_any (r2.drewN 1) _ Y (by first | rfl | (rw [hx2]) | omega) hY).mono ?_; rintro x w3 ⟨rfl, ov3, r3, k3⟩)
                    all_goals go_wp2
                    all_goals go_roundw
                    all_goals first | exact ⟨j + 1, ov3, by omega, by go_num, by rw [HT.out, HSN.out]; exact r3, (k2.drewN 1).trans k3⟩ | (simp [intOf]; omega)
                  · obtain rfl : j = 257 - X := by omega
                    have cj' : ¬ ((X + (257 - X) : Nat) : Int) < 257 := by omega
                    have hLl : (List.replicate (257 - X) Y).length = 257 - X := by rw [List.length_replicate]
                    by_cases c5 : o.length + (257 - X) ≤ most
                    · rw [rputs_room most _ o (by rw [hLl]; exact c5)] at r2
                      have HR2 := hide (HR.out.symm.trans (if_pos c5))
                      have g1 := r2.c1
                      have g2 := r2.fz 1
                      have R3 := hide (r2.set1 (Q + 1) (by omega))
                      have K3 := hide (k2.setCell (p := ⟨b, 1, none⟩) (by simp) (.int .i64 (((Q + 1) : Nat) : Int)))
                      have eN : (((Q + 1) : Nat) : Int) = (Q : Int) + 1 := by omega
                      rw [eN] at R3 K3
                      have m3 := hide R3.out.errOf
                      have m4 := hide R3.out.posOf
                      clear r2 k2
                      go_wp2
                      go_roundw
                      case rel => exact ⟨_, _, _, 0, R3.out, Or.inl ⟨rfl, by omega, f'', (by rw [← HQ.out] at *; exact HR2.out.symm), by have := HQ.out; omega⟩, K3.out⟩
                      case measure => have hQ2 := HQ.out; rw [mr.out, me.out, m3.out, m4.out]; simp; omega
                    · have hful := rputs_full most (List.replicate (257 - X) Y) o lo (by rw [hLl]; omega)
                      have HR2 := hide (HR.out.symm.trans (if_neg c5))
                      rw [hful] at r2
                      have g1 := r2.c1
                      have g2 := r2.fz 1
                      have R3 := hide (r2.set1 (Q + 1) (by omega))
                      have K3 := hide (k2.setCell (p := ⟨b, 1, none⟩) (by simp) (.int .i64 (((Q + 1) : Nat) : Int)))
                      have eN : (((Q + 1) : Nat) : Int) = (Q : Int) + 1 := by omega
                      rw [eN] at R3 K3
                      have m3 := hide R3.out.errOf
                      clear r2 k2
                      go_wp2
                      go_roundw
                      case rel => exact ⟨_, _, _, 6, R3.out, Or.inr ⟨by omega, HR2.out⟩, K3.out⟩
                      case measure => rw [mr.out, me.out, m3.out]; simp; omega
            · rw [if_neg c4] at hdec
              have HR := hide hdec
              have d4 : (S.size : Int) < (q : Int) + 1 + 1 := by omega
              clear hdec
              go_wp2_with fail
              go_quiet (fail)
              go_wp2_with fail
              refine (rno_ok (R1.out.drewN nq) 5 (by omega)).mono ?_
              rintro x w2 ⟨rfl, r2, k2⟩
              rw [rno_zero] at r2
              go_wp2
              refine bodyPost_ret (v := .tuple #[]) (by simp [results, Tryz.results76, go_sem]) rfl ?_
              exact ⟨rfl, _, _, _, _, r2, by rw [← HR.out]; exact ⟨rfl, by omega⟩, (K1.out.drewN nq).trans k2⟩
    · have he' : ((e : Int) == 0) = false := by simp; omega
      have HRR := hide hR
      clear hR HST
      go_wp2
      go_end0
      exact ⟨rfl, q, ov', o, e, r, by rw [HRR.out]; exact ⟨rfl, he⟩, kk⟩
end Go.Proofs.YtgkljcmjnphpeaaGreatDoor
namespace Go.Proofs.YtgkljcmjnphpeaaGreatDoor
open Go.RowKit
variable {B b : Nat} {S : ByteArray} {most : Nat} {w : World} {p : Nat} {ov : Value} {out : List Nat} {e : Nat}
/-- The bits that are still to be read. -/
def rest4 (S : ByteArray) (p : Nat) : List Bool := (Fo.bitsOf (bl S)).drop p
theorem rest4_len (S : ByteArray) (p : Nat) : (rest4 S p).length = 8 * S.size - p := by rw [rest4, List.length_drop, Fo.bitsOf_length, bl_len]
theorem rest4_drop (S : ByteArray) (p n : Nat) : (rest4 S p).drop n = rest4 S (p + n) := by rw [rest4, rest4, List.drop_drop]
theorem bitsOf_get : ∀ (l : List Nat) (i : Nat), i < 8 * l.length → (Fo.bitsOf l)[i]? = some ((nth l (i / 8)).testBit (i % 8))
  | [], i, h => by simp at h
  | x :: l, i, h => by
    rw [Fo.bitsOf_cons]
    by_cases c : i < 8
    · rw [List.getElem?_append_left (by rw [Fo.bits8_length]; exact c)]
      have e1 : i / 8 = 0 := by omega
      have e2 : i % 8 = i := by omega
      rw [e1, e2]
      match i, c with
      | 0, _ => rfl
      | 1, _ => rfl
      | 2, _ => rfl
      | 3, _ => rfl
      | 4, _ => rfl
      | 5, _ => rfl
      | 6, _ => rfl
      | 7, _ => rfl
    · rw [List.getElem?_append_right (by rw [Fo.bits8_length]; omega), Fo.bits8_length, bitsOf_get l (i - 8) (by simp at h; omega)]
      have e1 : i / 8 = (i - 8) / 8 + 1 := by omega
      have e2 : i % 8 = (i - 8) % 8 := by omega
      rw [e1, e2]; rfl
theorem rest4_cons (S : ByteArray) (p : Nat) (h : p < 8 * S.size) : rest4 S p = (nth (bl S) (p / 8)).testBit (p % 8) :: rest4 S (p + 1) := by
  have hl : p < (Fo.bitsOf (bl S)).length := by rw [Fo.bitsOf_length, bl_len]; exact h
  have := bitsOf_get (bl S) p (by rw [bl_len]; exact h)
  rw [List.getElem?_eq_getElem hl] at this
  simp only [Option.some.injEq] at this
  rw [rest4, List.drop_eq_getElem_cons hl, this]; rfl
theorem take_rest4 (S : ByteArray) (p j : Nat) (h : p + j < 8 * S.size) : (rest4 S p).take (j + 1) = (rest4 S p).take j ++ [(nth (bl S) ((p + j) / 8)).testBit ((p + j) % 8)] := by
  have hl : j < (rest4 S p).length := by rw [rest4_len]; omega
  rw [List.take_succ_eq_append_getElem hl]
  congr 2
  have h2 := rest4_cons S (p + j) h
  rw [← rest4_drop, List.drop_eq_getElem_cons hl] at h2
  simp only [List.cons.injEq] at h2
  exact h2.1
theorem bit_val (X k : Nat) : X / 2 ^ k % 2 = (X.testBit k).toNat := by
  rw [Nat.testBit_eq_decide_div_mod_eq]
  have := Nat.mod_two_eq_zero_or_one (X / 2 ^ k)
  rcases this with h | h <;> simp [h]
theorem bit_step (V X M j : Nat) (hj : j < 16) (hV : V < 2 ^ j) : wrap64 ((V : Int) + wrap64 (((X : Int) / 2 ^ M).tmod 2 * 2 ^ j)) = ((V + (X.testBit M).toNat * 2 ^ j : Nat) : Int) := by
  have e1 : ((X : Int) / 2 ^ M) = ((X / 2 ^ M : Nat) : Int) := by
    rw [Int.natCast_ediv, Int.natCast_pow]; rfl
  have e2 : (((X / 2 ^ M : Nat) : Int)).tmod 2 = ((X / 2 ^ M % 2 : Nat) : Int) := by
    rw [Int.tmod_eq_emod_of_nonneg (Int.natCast_nonneg _)]; rfl
  have e3 : ((2 : Int) ^ j) = ((2 ^ j : Nat) : Int) := by rw [Int.natCast_pow]; rfl
  have hp : 2 ^ j ≤ 2 ^ 15 := Nat.pow_le_pow_right (by omega) (by omega)
  rw [e1, e2, e3, bit_val]
  generalize 2 ^ j = P at *
  cases X.testBit M
  · simp only [Bool.toNat_false, wrap64]; omega
  · simp only [Bool.toNat_true, wrap64]; omega
theorem rbits_err (h : RIn B b S most w p ov out e) (he : e ≠ 0) (n : Nat) (hn : n ≤ 16) :
    Calls Tryz.prog 112 #[.pointer (some ⟨b, 0, none⟩), .int .i64 n] w fun x w' => x = .returned (.int .i64 0) ∧ RIn B b S most w' p ov out e ∧ Kept 5 B [b] w w' := by
  have c0 := h.c0
  have c1 := h.c1
  have ls := h.ls
  have lp := h.lp
  have he' : ((e : Int) == 0) = false := by simp; omega
  by_cases hlt : p + n ≤ 8 * S.size
  all_goals
    go_enter Tryz.func112, Tryz.ntmps112
    go_wp2_with fail
  · have d1 : ¬ (8 * (S.size : Int)) < (p : Int) + (n : Int) := by omega
    go_quiet (fail)
    have R0 := hide (h.drewN nq)
    have K0 := hide ((Kept.refl 5 B [b] w).drewN nq)
    generalize w.drewN nq = W0 at *
    have c4 := R0.out.c4
    go_wp2
    go_loopw [5, 6] (fun v i wr => v = .int .i64 0 ∧ i = .int .i64 0 ∧ wr = W0) (fun _ _ _ => 0)
    case atStart => exact ⟨rfl, rfl, rfl⟩
    case round =>
      obtain ⟨rfl, rfl, rfl⟩ := hrel
      by_cases c : 0 < n
      · have c' : (0 : Int) < n := by omega
        go_wp2
        go_ret
        exact ⟨rfl, R0.out, K0.out⟩
      · have c' : ¬ (0 : Int) < n := by omega
        go_wp2
        go_ret
        exact ⟨rfl, R0.out, K0.out⟩
  · have d1 : (8 * (S.size : Int)) < (p : Int) + (n : Int) := by omega
    go_quiet (fail)
    go_wp2_with fail
    refine (rno_ok (h.drewN nq) 5 (by omega)).mono ?_
    rintro x w1 ⟨rfl, r1, k1⟩
    rw [rno_err he] at r1
    have c4 := r1.c4
    go_wp2
    go_loopw [5, 6] (fun v i wr => v = .int .i64 0 ∧ i = .int .i64 0 ∧ wr = w1) (fun _ _ _ => 0)
    case atStart => exact ⟨rfl, rfl, rfl⟩
    case round =>
      obtain ⟨rfl, rfl, rfl⟩ := hrel
      by_cases c : 0 < n
      · have c' : (0 : Int) < n := by omega
        go_wp2
        go_ret
        exact ⟨rfl, r1, ((Kept.refl _ _ _ _).drewN nq).trans k1⟩
      · have c' : ¬ (0 : Int) < n := by omega
        go_wp2
        go_ret
        exact ⟨rfl, r1, ((Kept.refl _ _ _ _).drewN nq).trans k1⟩
theorem rbits_short (h : RIn B b S most w p ov out 0) (n : Nat) (hn : n ≤ 16) (hlt : 8 * S.size < p + n) :
    Calls Tryz.prog 112 #[.pointer (some ⟨b, 0, none⟩), .int .i64 n] w fun x w' => x = .returned (.int .i64 0) ∧ RIn B b S most w' p ov out 5 ∧ Kept 5 B [b] w w' := by
  have c0 := h.c0
  have c1 := h.c1
  have ls := h.ls
  have lp := h.lp
  have d1 : (8 * (S.size : Int)) < (p : Int) + (n : Int) := by omega
  go_enter Tryz.func112, Tryz.ntmps112
  go_wp2_with fail
  go_quiet (fail)
  go_wp2_with fail
  refine (rno_ok (h.drewN nq) 5 (by omega)).mono ?_
  rintro x w1 ⟨rfl, r1, k1⟩
  rw [rno_zero] at r1
  have c4 := r1.c4
  go_wp2
  go_loopw [5, 6] (fun v i wr => v = .int .i64 0 ∧ i = .int .i64 0 ∧ wr = w1) (fun _ _ _ => 0)
  case atStart => exact ⟨rfl, rfl, rfl⟩
  case round =>
    obtain ⟨rfl, rfl, rfl⟩ := hrel
    by_cases c : 0 < n
    · have c' : (0 : Int) < n := by omega
      go_wp2
      go_ret
      exact ⟨rfl, r1, ((Kept.refl _ _ _ _).drewN nq).trans k1⟩
    · have c' : ¬ (0 : Int) < n := by omega
      go_wp2
      go_ret
      exact ⟨rfl, r1, ((Kept.refl _ _ _ _).drewN nq).trans k1⟩
theorem rbits_ok (h : RIn B b S most w p ov out 0) (n : Nat) (hn : n ≤ 16) (hlt : p + n ≤ 8 * S.size) :
    Calls Tryz.prog 112 #[.pointer (some ⟨b, 0, none⟩), .int .i64 n] w fun x w' => x = .returned (.int .i64 (Fo.val ((rest4 S p).take n) : Nat)) ∧ RIn B b S most w' (p + n) ov out 0 ∧ Kept 5 B [b] w w' := by
  have c0 := h.c0
  have c1 := h.c1
  have ls := h.ls
  have lp := h.lp
  have d1 : ¬ (8 * (S.size : Int)) < (p : Int) + (n : Int) := by omega
  go_enter Tryz.func112, Tryz.ntmps112
  go_wp2_with fail
  go_quiet (fail)
  have R0 := hide (h.drewN nq)
  have K0 := hide ((Kept.refl 5 B [b] w).drewN nq)
  clear h c0 c1 lp
  generalize w.drewN nq = W0 at *
  go_wp2
  go_loopw [5, 6] (fun v i wr => ∃ j : Nat, j ≤ n ∧ v = .int .i64 (Fo.val ((rest4 S p).take j) : Nat) ∧ i = .int .i64 j ∧ RIn B b S most wr (p + j) ov out 0 ∧ Kept 5 B [b] w wr) (fun _ i _ => n - (intOf i).toNat)
  case atStart => exact ⟨0, Nat.zero_le _, by simp [Fo.val], rfl, R0.out, K0.out⟩
  clear R0 K0
  case round =>
    obtain ⟨j, hj, rfl, rfl, r, kk⟩ := hrel
    have c4 := r.c4
    by_cases cj : j < n
    · have cj' : (j : Int) < n := by omega
      have c0 := r.c0
      have c1 := r.c1
      have f1 := r.fz 1
      obtain ⟨Q, hQ⟩ : ∃ Q, p + j = Q := ⟨_, rfl⟩
      rw [hQ] at c1
      obtain ⟨D, hD⟩ : ∃ D, Q / 8 = D := ⟨_, rfl⟩
      obtain ⟨M, hM⟩ : ∃ M, Q % 8 = M := ⟨_, rfl⟩
      have hq8 : D < S.size := by omega
      have hq8' : (D : Int) < S.size := by omega
      have w1 : IntKind.i64.wrap ((Q : Int) / 8) = (D : Int) := by rw [IntKind.wrap_i64]; omega
      have w2 : IntKind.i64.wrap ((Q : Int) % 8) = (M : Int) := by rw [IntKind.wrap_i64]; omega
      have hM8 : M < 8 := by omega
      have hx := bl_nth S D hq8
      have hX := bl_lt S D hq8
      have HT := hide (take_rest4 S p j (by omega))
      have HB := hide (bit_val (nth (bl S) D) M)
      have HV := hide (val_snoc ((rest4 S p).take j) ((nth (bl S) D).testBit M))
      rw [hQ, hD, hM] at HT
      generalize nth (bl S) D = X at *
      go_wp2_with fail
      go_quiet (fail)
      have R1 := hide ((r.drewN nq).set1 (p + (j + 1)) (by omega))
      have K1 := hide ((kk.drewN nq).setCell (p := ⟨b, 1, none⟩) (by simp) (.int .i64 ((p + (j + 1) : Nat) : Int)))
      have eQ : ((p + (j + 1) : Nat) : Int) = (Q : Int) + 1 := by omega
      rw [eQ] at R1 K1
      have hvl := Fo.val_lt ((rest4 S p).take j)
      have htl : ((rest4 S p).take j).length = j := by rw [List.length_take, rest4_len]; omega
      rw [htl] at hvl HV
      have HBS := hide (bit_step (Fo.val ((rest4 S p).take j)) X M j (by omega) hvl)
      clear r kk hvl
      go_wp2
      go_roundw
      case rel => exact ⟨j + 1, by omega, by rw [HT.out, HV.out, HBS.out], by go_num, R1.out, K1.out⟩
      case measure => simp [intOf]; omega
    · obtain rfl : j = n := by omega
      have cj' : ¬ (j : Int) < j := by omega
      go_wp2
      go_ret
      exact ⟨rfl, r, kk⟩
end Go.Proofs.YtgkljcmjnphpeaaGreatDoor
