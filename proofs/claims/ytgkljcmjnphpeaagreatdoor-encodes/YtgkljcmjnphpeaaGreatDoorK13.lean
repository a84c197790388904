/- The document's answer: filter 2. -/
import Derived.Test.YtgkljcmjnphpeaaGreatDoorK12
import Derived.Test.YtgkljcmjnphpeaaGreatDoorK07
import Derived.Test.YtgkljcmjnphpeaaGreatDoorK02
set_option linter.unusedVariables false
set_option linter.unusedSimpArgs false
namespace Go.Proofs.YtgkljcmjnphpeaaGreatDoor
open Go.RowKit
variable {B b : Nat} {S : ByteArray} {most : Nat} {w : World} {p : Nat} {ov : Value} {out : List Nat} {e : Nat}
theorem rwhite_ok (c : Nat) (w : World) : Calls Tryz.prog 150 #[.int .u8 c] w fun x w' => x = .returned (.bool (whiteB c)) ∧ w' = w := by
  have key : whiteB c = ((c : Int) == 0 || (c : Int) == 9 || (c : Int) == 10 || (c : Int) == 12 || (c : Int) == 13 || (c : Int) == 32) := by
    unfold whiteB
    rw [Bool.eq_iff_iff]; simp; omega
  rw [key]
  go_enter Tryz.func150, Tryz.ntmps150
  go_wp2
  all_goals (go_ret; exact ⟨by simp [*], rfl⟩)
/-- The next byte that is not white; below 0: there is none. -/
def seenV (d : List Nat) (p : Nat) : Int := if skipW d p < d.length then (nth d (skipW d p) : Nat) else -1
def seenP (d : List Nat) (p : Nat) : Nat := if skipW d p < d.length then skipW d p + 1 else d.length
theorem seen_ok (h : RIn B b S most w p ov out e) (hp : p ≤ S.size) :
    Calls Tryz.prog 105 #[.pointer (some ⟨b, 0, none⟩)] w fun x w' => x = .returned (.int .i64 (seenV (bl S) p)) ∧ RIn B b S most w' (seenP (bl S) p) ov out e ∧ Kept 5 B [b] w w' := by
  have hl := bl_len S
  have ls := h.ls
  go_enter Tryz.func105, Tryz.ntmps105
  go_wp2
  go_loopw [3] (fun _ wr => ∃ q : Nat, q ≤ S.size ∧ Hid (skipW (bl S) q = skipW (bl S) p) ∧ RIn B b S most wr q ov out e ∧ Kept 5 B [b] w wr) (fun _ wr => S.size - posOf b wr)
  case atStart => exact ⟨p, hp, rfl, h, Kept.refl _ _ _ _⟩
  case round =>
    clear h
    obtain ⟨q, hq, HS, r, kk⟩ := hrel
    have mr := hide r.posOf
    have c0 := r.c0
    have c1 := r.c1
    have f1 := r.fz 1
    by_cases hlt : q < S.size
    · have hlt' : (q : Int) < S.size := by omega
      have HL := hide hl
      have hx := bl_nth S q hlt
      have hb256 := bl_lt S q hlt
      have HSTEP := hide (skipW_step (d := bl S) (p := q) (by omega))
      have HSTOP := hide (skipW_stop (d := bl S) (p := q))
      have hwc := fun W => rwhite_ok (nth (bl S) q) W
      have HRR := hide r
      have HKK := hide kk
      clear r kk hl
      go_wp2_with fail
      go_quiet (fail)
      have R0 := hide ((HRR.out.drewN nq).set1 (q + 1) (by omega))
      have K0 := hide ((HKK.out.drewN nq).setCell (p := ⟨b, 1, none⟩) (by simp) (.int .i64 ((q + 1 : Nat) : Int)))
      go_wp2_with fail
      have es : IntKind.i64.wrap ((q : Int) + 1 - 1) = (q : Int) := by rw [IntKind.wrap_i64]; omega
      go_quiet ((go_at_call 150; exact Calls.quiet_of_same (hwc _)))
      have R1 := hide (R0.out.drewN nq)
      have K1 := hide (K0.out.drewN nq)
      cases hwh : whiteB (nth (bl S) q) with
      | true =>
        have HN := hide ((HSTEP.out hwh).symm.trans HS.out)
        go_wp2
        go_roundw
        case rel => exact ⟨q + 1, by omega, HN, R1.out, K1.out⟩
        case measure =>
          have e := R1.out.posOf
          rw [show ((q + 1 : Nat) : Int) = (q : Int) + 1 by omega] at e
          rw [mr.out, e]; omega
      | false =>
        have HN := hide ((HSTOP.out (fun c => by rw [hwh] at c; cases c.2)).symm.trans HS.out)
        go_wp2_with fail
        go_quiet (fail)
        go_wp2
        go_ret
        have hn := HN.out
        have hlL := HL.out
        have e1 : seenV (bl S) p = (nth (bl S) q : Nat) := by unfold seenV; rw [← hn, if_pos (by omega)]
        have e2 : seenP (bl S) p = q + 1 := by unfold seenP; rw [← hn, if_pos (by omega)]
        rw [e1, e2]
        exact ⟨rfl, R1.out.drewN nq, K1.out.drewN nq⟩
    · have HL := hide hl
      have hn := hide ((skipW_stop (d := bl S) (p := q) (fun c => by omega)).symm.trans HS.out)
      have hge : ¬ (q : Int) < S.size := by omega
      have hq2 : q = S.size := by omega
      have HRR := hide r
      have HKK := hide kk
      clear r kk hl
      go_wp2_with fail
      go_quiet (fail)
      go_wp2
      go_ret
      have hlL := HL.out
      have hn' := hn.out
      have e1 : seenV (bl S) p = -1 := by unfold seenV; rw [← hn', if_neg (by omega)]
      have e2 : seenP (bl S) p = q := by unfold seenP; rw [← hn', if_neg (by omega)]; omega
      rw [e1, e2]
      exact ⟨rfl, HRR.out.drewN nq, HKK.out.drewN nq⟩
theorem seenP_le (d : List Nat) (p : Nat) : seenP d p ≤ d.length := by unfold seenP; split <;> omega
theorem seenV_range (S : ByteArray) (p : Nat) : -1 ≤ seenV (bl S) p ∧ seenV (bl S) p < 256 := by
  unfold seenV
  split
  · rename_i h
    rw [bl_len] at h
    have := bl_lt S _ h
    omega
  · omega
/-- Nothing but white is left. -/
def restE (d : List Nat) (p e : Nat) : Nat := if skipW d p < d.length then rno 5 e else e
theorem rest_ok (h : RIn B b S most w p ov out e) (hp : p ≤ S.size) :
    Calls Tryz.prog 106 #[.pointer (some ⟨b, 0, none⟩)] w fun x w' => x = .returned (.tuple #[]) ∧ RIn B b S most w' (seenP (bl S) p) ov out (restE (bl S) p e) ∧ Kept 5 B [b] w w' := by
  have HS := hide (seen_ok h hp)
  by_cases c : skipW (bl S) p < (bl S).length
  · have e1 : seenV (bl S) p = (nth (bl S) (skipW (bl S) p) : Nat) := by unfold seenV; rw [if_pos c]
    have e2 : restE (bl S) p e = rno 5 e := by unfold restE; rw [if_pos c]
    rw [e1] at HS
    rw [e2]
    clear h
    generalize nth (bl S) (skipW (bl S) p) = X at *
    go_enter Tryz.func106, Tryz.ntmps106
    go_wp2_with fail
    refine HS.out.mono ?_
    rintro x w1 ⟨rfl, h1, k1⟩
    go_wp2_with fail
    refine (rno_ok h1 5 (by omega)).mono ?_
    rintro x w2 ⟨rfl, h2, k2⟩
    go_wp2
    go_end0
    exact ⟨rfl, h2, k1.trans k2⟩
  · have e1 : seenV (bl S) p = -1 := by unfold seenV; rw [if_neg c]
    have e2 : restE (bl S) p e = e := by unfold restE; rw [if_neg c]
    rw [e1] at HS
    rw [e2]
    clear h
    go_enter Tryz.func106, Tryz.ntmps106
    go_wp2_with fail
    refine HS.out.mono ?_
    rintro x w1 ⟨rfl, h1, k1⟩
    go_wp2
    go_end0
    exact ⟨rfl, h1, k1⟩
/-- What a hexadecimal digit is; below 0: it is none. -/
def sixV (c : Int) : Int := if c < 0 then -1 else match Fo.hexVal c.toNat with
  | some v => (v : Nat)
  | none => -1
def lowD (i : Nat) : Nat := Fo.hexDig i
def upD (i : Nat) : Nat := if i < 10 then 48 + i else 55 + i
theorem six_low : ∀ i : Fin 16, sixV (lowD i.val : Nat) = (i.val : Nat) := by decide +kernel
theorem six_up : ∀ i : Fin 16, sixV (upD i.val : Nat) = (i.val : Nat) := by decide +kernel
theorem six_none : ∀ c : Fin 256, (∀ i : Fin 16, c.val ≠ lowD i.val ∧ c.val ≠ upD i.val) → sixV (c.val : Nat) = -1 := by decide +kernel
theorem upLit (i : Nat) (h : i < 16) (h2 : i < ({ data := #[48, 49, 50, 51, 52, 53, 54, 55, 56, 57, 65, 66, 67, 68, 69, 70] } : ByteArray).size) : (({ data := #[48, 49, 50, 51, 52, 53, 54, 55, 56, 57, 65, 66, 67, 68, 69, 70] } : ByteArray)[i]'h2).toNat = upD i := by
  match i, h with
  | 0, _ => rfl
  | 1, _ => rfl
  | 2, _ => rfl
  | 3, _ => rfl
  | 4, _ => rfl
  | 5, _ => rfl
  | 6, _ => rfl
  | 7, _ => rfl
  | 8, _ => rfl
  | 9, _ => rfl
  | 10, _ => rfl
  | 11, _ => rfl
  | 12, _ => rfl
  | 13, _ => rfl
  | 14, _ => rfl
  | 15, _ => rfl
  | n + 16, h => exact absurd h (by omega)
theorem sixteen_ok (c : Int) (h1 : -1 ≤ c) (h2 : c < 256) (w : World) : Calls Tryz.prog 107 #[.int .i64 c] w fun x w' => x = .returned (.int .i64 (sixV c)) ∧ w' = w := by
  go_enter Tryz.func107, Tryz.ntmps107
  go_wp2
  go_loopw [3] (fun j wr => ∃ k : Nat, k ≤ 16 ∧ j = .int .i64 k ∧ Hid (∀ i, i < k → c ≠ (lowD i : Nat) ∧ c ≠ (upD i : Nat)) ∧ wr = w) (fun j _ => 16 - (intOf j).toNat)
  case atStart => exact ⟨0, by omega, rfl, fun i hi => by omega, rfl⟩
  case round =>
    obtain ⟨k, hk, rfl, HK, rfl⟩ := hrel
    by_cases hk16 : k < 16
    · have hlit := hexLit k hk16 (by show k < 16; omega)
      have hup := upLit k hk16 (by show k < 16; omega)
      have hk' : (k : Int) < 16 := by omega
      have HL := hide (six_low ⟨k, hk16⟩)
      have HU := hide (six_up ⟨k, hk16⟩)
      simp only [lowD] at HL HU
      have hX : Fo.hexDig k < 256 := Fo.hexDig_lt k hk16
      have hY : upD k < 256 := by unfold upD; split <;> omega
      have HNX : Hid ((∀ i, i < k → c ≠ (lowD i : Nat) ∧ c ≠ (upD i : Nat)) → c ≠ (Fo.hexDig k : Nat) → c ≠ (upD k : Nat) → ∀ i, i < k + 1 → c ≠ (lowD i : Nat) ∧ c ≠ (upD i : Nat)) := by
        intro h1 h2 h3 i hi
        by_cases e : i = k
        · subst e; exact ⟨h2, h3⟩
        · exact h1 i (by omega)
      generalize Fo.hexDig k = X at *
      generalize upD k = Y at *
      by_cases c1 : c = (X : Nat)
      · subst c1
        go_wp2
        go_ret
        exact ⟨ret_int HL.out.symm, rfl⟩
      · have d1 : (c == (X : Int)) = false := by simpa using c1
        by_cases c2 : c = (Y : Nat)
        · subst c2
          go_wp2
          go_ret
          exact ⟨ret_int HU.out.symm, rfl⟩
        · have d2 : (c == (Y : Int)) = false := by simpa using c2
          go_wp2
          go_roundw
          case rel => exact ⟨k + 1, by omega, by go_num, HNX.out HK.out c1 c2, trivial⟩
          case measure => simp [intOf]; omega
    · obtain rfl : k = 16 := by omega
      go_wp2
      go_ret
      refine ⟨ret_int ?_, rfl⟩
      by_cases hc : c < 0
      · simp [sixV, hc]
      · obtain ⟨n, rfl⟩ := Int.eq_ofNat_of_zero_le (show 0 ≤ c by omega)
        have := six_none ⟨n, by omega⟩ (fun i => by
          have := HK.out i.val i.isLt
          constructor
          · intro e; exact this.1 (by simp only [] at e; omega)
          · intro e; exact this.2 (by simp only [] at e; omega))
        exact this.symm
end Go.Proofs.YtgkljcmjnphpeaaGreatDoor
namespace Go.Proofs.YtgkljcmjnphpeaaGreatDoor
open Go.RowKit
variable {B b : Nat} {S : ByteArray} {most : Nat} {w : World} {p : Nat} {ov : Value} {out : List Nat} {e : Nat}
/-- What has come of it. -/
def RRes (R : Except Nat (List Nat)) (o : List Nat) (e : Nat) : Prop := match R with
  | .ok l => e = 0 ∧ o = l
  | .error n => e = n ∧ n ≠ 0
def errOf (b : Nat) (w : World) : Nat := (intOf ((w.cell? ⟨b, 4, none⟩).getD undef)).toNat
theorem RIn.errOf (h : RIn B b S most w p ov out e) : errOf b w = e := by unfold Go.Proofs.YtgkljcmjnphpeaaGreatDoor.errOf; rw [h.c4]; simp [intOf]
theorem rput_room {c : Nat} (h : out.length + 1 ≤ most) : rput most c (out, 0) = (out ++ [c], 0) := by unfold rput; simp only [if_true]; rw [if_neg (by omega)]
theorem rput_full {c : Nat} (h : ¬ out.length + 1 ≤ most) : rput most c (out, 0) = (out, 6) := by unfold rput; simp only [if_true]; rw [if_pos (by omega)]
theorem rput_err {c n : Nat} (h : n ≠ 0) : rput most c (out, n) = (out, n) := by unfold rput; simp only [if_neg h]
theorem rno_zero (n : Nat) : rno n 0 = n := by unfold rno; simp
theorem rno_err {n e : Nat} (h : e ≠ 0) : rno n e = e := by unfold rno; rw [if_neg h]
theorem restW_res (d : List Nat) (q : Nat) (o : List Nat) : RRes (restW d q o) o (restE d q 0) := by
  unfold restW restE
  split
  · exact ⟨rno_zero 5, by omega⟩
  · exact ⟨rfl, rfl⟩
theorem restE_err {d : List Nat} {q n : Nat} (h : n ≠ 0) : restE d q n = n := by
  unfold restE
  split
  · exact rno_err h
  · rfl
/-- Where a loop over parts stands: nothing wrong as yet, and what is to come of the rest; or what was wrong. -/
def RSt (dec : Nat → Nat → List Nat → Except Nat (List Nat)) (n : Nat) (R : Except Nat (List Nat)) (q : Nat) (o : List Nat) (e : Nat) : Prop :=
  (e = 0 ∧ q ≤ n ∧ ∃ f, dec f q o = R ∧ n - q < f) ∨ (e ≠ 0 ∧ R = .error e)
theorem seenV_ink {d : List Nat} {p : Nat} (h : ¬ d.length ≤ skipW d p) : seenV d p = (nth d (skipW d p) : Nat) := by unfold seenV; rw [if_pos (by omega)]
theorem seenP_ink {d : List Nat} {p : Nat} (h : ¬ d.length ≤ skipW d p) : seenP d p = skipW d p + 1 := by unfold seenP; rw [if_pos (by omega)]
theorem seenV_end {d : List Nat} {p : Nat} (h : d.length ≤ skipW d p) : seenV d p = -1 := by unfold seenV; rw [if_neg (by omega)]
theorem seenP_end {d : List Nat} {p : Nat} (h : d.length ≤ skipW d p) : seenP d p = d.length := by unfold seenP; rw [if_neg (by omega)]
theorem sixV_some {c v : Nat} (h : Fo.hexVal c = some v) : sixV (c : Nat) = (v : Nat) := by
  unfold sixV
  rw [if_neg (by omega), show ((c : Nat) : Int).toNat = c by omega, h]
theorem sixV_none {c : Nat} (h : Fo.hexVal c = none) : sixV (c : Nat) = -1 := by
  unfold sixV
  rw [if_neg (by omega), show ((c : Nat) : Int).toNat = c by omega, h]
theorem hexVal_lt {c v : Nat} (h : Fo.hexVal c = some v) : v < 16 := by
  unfold Fo.hexVal at h
  split at h
  · simp at h; omega
  · split at h
    · simp at h; omega
    · split at h
      · simp at h; omega
      · cases h
theorem sixV_62 : sixV 62 = -1 := by decide +kernel
theorem sixV_neg : sixV (-1) = -1 := by decide +kernel
theorem sixV_range (c : Int) (h : c < 256) : -1 ≤ sixV c ∧ sixV c < 16 := by
  unfold sixV
  split
  · omega
  · split
    · rename_i v hv
      have := hexVal_lt hv
      omega
    · omega
theorem rput_any (h : RIn B b S most w p ov out e) (v : Int) (c : Nat) (hv : v = c) (hc : c < 256) :
    Calls Tryz.prog 108 #[.pointer (some ⟨b, 0, none⟩), .int .u8 v] w fun x w' => x = .returned (.tuple #[]) ∧ ∃ ov', RIn B b S most w' p ov' (rput most c (out, e)).1 (rput most c (out, e)).2 ∧ Kept 5 B [b] w w' := by
  subst hv; exact rput_ok h c hc
theorem rput_bad (h : RIn B b S most w p ov out e) (he : e ≠ 0) (v : Int) (h0 : 0 ≤ v) (h1 : v < 256) :
    Calls Tryz.prog 108 #[.pointer (some ⟨b, 0, none⟩), .int .u8 v] w fun x w' => x = .returned (.tuple #[]) ∧ ∃ ov', RIn B b S most w' p ov' out e ∧ Kept 5 B [b] w w' := by
  obtain ⟨c, rfl⟩ := Int.eq_ofNat_of_zero_le h0
  have := rput_ok h c (by omega)
  rw [rput_err he] at this
  exact this
set_option maxRecDepth 100000 in
set_option maxHeartbeats 2000000 in
theorem rhex_ok (h : RIn B b S most w p ov out 0) (hp : p ≤ S.size) (R : Except Nat (List Nat)) (f : Nat) (hf : S.size - p < f) (hR : hexDec (bl S) most f p out = R) :
    Calls Tryz.prog 74 #[.pointer (some ⟨b, 0, none⟩)] w fun x w' => x = .returned (.tuple #[]) ∧ ∃ p' ov' o e, RIn B b S most w' p' ov' o e ∧ RRes R o e ∧ Kept 5 B [b] w w' := by
  have hl := bl_len S
  go_enter Tryz.func74, Tryz.ntmps74
  go_wp2
  go_loopw [2] (fun _ wr => ∃ (q : Nat) (ov' : Value) (o : List Nat) (e : Nat), RIn B b S most wr q ov' o e ∧ Hid (RSt (hexDec (bl S) most) S.size R q o e) ∧ Kept 5 B [b] w wr) (fun _ wr => if errOf b wr = 0 then S.size + 1 - posOf b wr else 0)
  case atStart => exact ⟨p, ov, out, 0, h, Or.inl ⟨rfl, hp, f, hR, hf⟩, Kept.refl _ _ _ _⟩
  clear h hR hf hp
  case round =>
    obtain ⟨q, ov', o, e, r, HST, kk⟩ := hrel
    have mr := hide r.posOf
    have me := hide r.errOf
    have c4 := r.c4
    rcases HST.out with ⟨rfl, hq, f', hdec, hff⟩ | ⟨he, hR⟩
    · obtain ⟨f'', rfl⟩ : ∃ f'', f' = f'' + 1 := ⟨f' - 1, by omega⟩
      have HLL := hide hl
      have sv := seenV_range S q
      have sp := seenP_le (bl S) q
      have HS1 := hide (seen_ok r hq)
      simp only [hexDec] at hdec
      clear HST r
      by_cases c1 : (bl S).length ≤ skipW (bl S) q
      · rw [if_pos c1] at hdec
        rw [seenV_end c1, seenP_end c1] at HS1
        have HR := hide hdec
        clear hdec c1 sv sp
        go_wp2_with fail
        refine HS1.out.mono ?_
        rintro x w1 ⟨rfl, r1, k1⟩
        have HS2 := hide (seen_ok r1 (by rw [HLL.out]; exact Nat.le_refl _))
        have e2 : skipW (bl S) (bl S).length = (bl S).length := skipW_stop (fun c => by omega)
        rw [seenV_end (by rw [e2]; exact Nat.le_refl _), seenP_end (by rw [e2]; exact Nat.le_refl _)] at HS2
        clear e2
        go_wp2_with fail
        refine HS2.out.mono ?_
        rintro x w2 ⟨rfl, r2, k2⟩
        have hsx := sixteen_ok (-1) (by omega) (by omega)
        rw [sixV_neg] at hsx
        go_wp2_with (go_at_call 107; refine (hsx _).mono ?_; rintro x w' ⟨rfl, rfl⟩)
        refine (rno_ok r2 5 (by omega)).mono ?_
        rintro x w3 ⟨rfl, r3, k3⟩
        rw [rno_zero] at r3
        go_wp2_with fail
        refine (rput_bad r3 (by omega) _ (by first | decide | omega) (by first | decide | omega)).mono ?_
        rintro x w4 ⟨rfl, ov4, r4, k4⟩
        have m4 := hide r4.errOf
        go_wp2
        go_roundw
        case rel => exact ⟨_, ov4, o, 5, r4, Or.inr ⟨by omega, HR.out.symm⟩, (((kk.trans k1).trans k2).trans k3).trans k4⟩
        case measure => rw [mr.out, me.out, m4.out]; simp; omega
      · rw [if_neg c1] at hdec
        rw [seenV_ink c1, seenP_ink c1] at HS1
        have hX : nth (bl S) (skipW (bl S) q) < 256 := bl_lt S _ (by omega)
        have hq1 : skipW (bl S) q + 1 ≤ S.size := by omega
        have hq0 : q ≤ skipW (bl S) q := skipW_ge _ _
        clear c1 sv sp
        generalize nth (bl S) (skipW (bl S) q) = X at *
        generalize hK : skipW (bl S) q = K at *
        clear hK
        by_cases c2 : X = 62
        · rw [if_pos c2] at hdec
          subst c2
          have HR := hide hdec
          clear hdec
          go_wp2_with fail
          refine HS1.out.mono ?_
          rintro x w1 ⟨rfl, r1, k1⟩
          go_wp2_with fail
          refine (rest_ok r1 hq1).mono ?_
          rintro x w2 ⟨rfl, r2, k2⟩
          go_wp2
          refine bodyPost_ret (v := .tuple #[]) (by simp [results, Tryz.results74, go_sem]) rfl ?_
          exact ⟨rfl, _, _, _, _, r2, by rw [← HR.out]; exact restW_res _ _ _, (kk.trans k1).trans k2⟩
        · rw [if_neg c2] at hdec
          have hX62 : ((X : Int) == 62) = false := by simp; omega
          have sv := seenV_range S (K + 1)
          have sp := seenP_le (bl S) (K + 1)
          have hsx := sixteen_ok (X : Int) (by omega) (by omega)
          cases hx : Fo.hexVal X with
          | none =>
            rw [hx] at hdec
            simp only [] at hdec
            rw [sixV_none hx] at hsx
            have HR := hide hdec
            have HSX := hide hsx
            clear hdec hsx
            go_wp2_with fail
            refine HS1.out.mono ?_
            rintro x w1 ⟨rfl, r1, k1⟩
            have HS2 := hide (seen_ok r1 hq1)
            have hsy := sixteen_ok (seenV (bl S) (K + 1)) sv.1 sv.2
            have hZ := sixV_range (seenV (bl S) (K + 1)) sv.2
            generalize sixV (seenV (bl S) (K + 1)) = Z at *
            generalize seenV (bl S) (K + 1) = Y at *
            have HSY := hide hsy
            clear hsy
            go_wp2_with fail
            refine HS2.out.mono ?_
            rintro x w2 ⟨rfl, r2, k2⟩
            go_wp2_with fail
            refine (HSX.out _).mono ?_
            rintro x w' ⟨rfl, rfl⟩
            go_wp2_with fail
            refine (HSY.out _).mono ?_
            rintro x w' ⟨rfl, rfl⟩
            go_wp2_with fail
            refine (rno_ok r2 5 (by omega)).mono ?_
            rintro x w3 ⟨rfl, r3, k3⟩
            rw [rno_zero] at r3
            go_wp2_with fail
            refine (rput_bad r3 (by omega) _ (by first | decide | omega) (by first | decide | omega)).mono ?_
            rintro x w4 ⟨rfl, ov4, r4, k4⟩
            have m4 := hide r4.errOf
            go_wp2
            go_roundw
            case rel => exact ⟨_, ov4, o, 5, r4, Or.inr ⟨by omega, HR.out.symm⟩, (((kk.trans k1).trans k2).trans k3).trans k4⟩
            case measure => rw [mr.out, me.out, m4.out]; simp; omega
          | some x0 =>
            rw [hx] at hdec
            simp only [] at hdec
            rw [sixV_some hx] at hsx
            have hx16 := hexVal_lt hx
            have HSX := hide hsx
            clear hsx hx
            go_wp2_with fail
            refine HS1.out.mono ?_
            rintro x w1 ⟨rfl, r1, k1⟩
            have HS2 := hide (seen_ok r1 hq1)
            by_cases c3 : (bl S).length ≤ skipW (bl S) (K + 1)
            · rw [if_pos c3] at hdec
              have HR := hide hdec
              rw [seenV_end c3, seenP_end c3] at HS2
              have hsy := sixteen_ok (-1) (by omega) (by omega)
              rw [sixV_neg] at hsy
              have HSY := hide hsy
              clear hsy hdec c3 sv sp
              go_wp2_with fail
              refine HS2.out.mono ?_
              rintro x w2 ⟨rfl, r2, k2⟩
              go_wp2_with fail
              refine (HSX.out _).mono ?_
              rintro x w' ⟨rfl, rfl⟩
              go_wp2_with fail
              refine (HSY.out _).mono ?_
              rintro x w' ⟨rfl, rfl⟩
              go_wp2_with fail
              refine (rno_ok r2 5 (by omega)).mono ?_
              rintro x w3 ⟨rfl, r3, k3⟩
              rw [rno_zero] at r3
              go_wp2_with fail
              refine (rput_bad r3 (by omega) _ (by first | decide | omega) (by first | decide | omega)).mono ?_
              rintro x w4 ⟨rfl, ov4, r4, k4⟩
              have m4 := hide r4.errOf
              go_wp2
              go_roundw
              case rel => exact ⟨_, ov4, o, 5, r4, Or.inr ⟨by omega, HR.out.symm⟩, (((kk.trans k1).trans k2).trans k3).trans k4⟩
              case measure => rw [mr.out, me.out, m4.out]; simp; omega
            · rw [if_neg c3] at hdec
              rw [seenV_ink c3, seenP_ink c3] at HS2
              have hY : nth (bl S) (skipW (bl S) (K + 1)) < 256 := bl_lt S _ (by omega)
              have hq2 : skipW (bl S) (K + 1) + 1 ≤ S.size := by omega
              have hq3 : K + 1 ≤ skipW (bl S) (K + 1) := skipW_ge _ _
              clear c3 sv sp
              generalize nth (bl S) (skipW (bl S) (K + 1)) = Y at *
              generalize hM : skipW (bl S) (K + 1) = M at *
              clear hM
              by_cases c4 : Y = 62
              · rw [if_pos c4] at hdec
                subst c4
                have hsy := sixteen_ok 62 (by omega) (by omega)
                rw [sixV_62] at hsy
                have HSY := hide hsy
                have HR := hide hdec
                have e16 : (16 * (x0 : Int)) % 256 = ((16 * x0 : Nat) : Int) := by omega
                clear hsy hdec
                go_wp2_with fail
                refine HS2.out.mono ?_
                rintro x w2 ⟨rfl, r2, k2⟩
                go_wp2_with fail
                refine (HSX.out _).mono ?_
                rintro x w' ⟨rfl, rfl⟩
                go_wp2_with fail
                refine (HSY.out _).mono ?_
                rintro x w' ⟨rfl, rfl⟩
                have HP := hide (rput_ok r2 (16 * x0) (by omega))
                by_cases c5 : o.length + 1 ≤ most
                · rw [rput_room c5] at HP
                  have HR2 := hide (HR.out.symm.trans (if_pos c5))
                  go_wp2_with fail
                  refine HP.out.mono ?_
                  rintro x w3 ⟨rfl, ov3, r3, k3⟩
                  go_wp2_with fail
                  refine (rest_ok r3 hq2).mono ?_
                  rintro x w4 ⟨rfl, r4, k4⟩
                  go_wp2
                  refine bodyPost_ret (v := .tuple #[]) (by simp [results, Tryz.results74, go_sem]) rfl ?_
                  exact ⟨rfl, _, _, _, _, r4, by rw [HR2.out]; exact restW_res _ _ _, (((kk.trans k1).trans k2).trans k3).trans k4⟩
                · rw [rput_full c5] at HP
                  have HR2 := hide (HR.out.symm.trans (if_neg c5))
                  go_wp2_with fail
                  refine HP.out.mono ?_
                  rintro x w3 ⟨rfl, ov3, r3, k3⟩
                  go_wp2_with fail
                  refine (rest_ok r3 hq2).mono ?_
                  rintro x w4 ⟨rfl, r4, k4⟩
                  rw [restE_err (by omega)] at r4
                  go_wp2
                  refine bodyPost_ret (v := .tuple #[]) (by simp [results, Tryz.results74, go_sem]) rfl ?_
                  exact ⟨rfl, _, _, _, _, r4, by rw [HR2.out]; exact ⟨rfl, by omega⟩, (((kk.trans k1).trans k2).trans k3).trans k4⟩
              · rw [if_neg c4] at hdec
                have hY62 : ((Y : Int) == 62) = false := by simp; omega
                have hsy := sixteen_ok (Y : Int) (by omega) (by omega)
                cases hy : Fo.hexVal Y with
                | none =>
                  rw [hy] at hdec
                  simp only [] at hdec
                  rw [sixV_none hy] at hsy
                  have HR := hide hdec
                  have HSY := hide hsy
                  clear hsy hdec
                  go_wp2_with fail
                  refine HS2.out.mono ?_
                  rintro x w2 ⟨rfl, r2, k2⟩
                  go_wp2_with fail
                  refine (HSX.out _).mono ?_
                  rintro x w' ⟨rfl, rfl⟩
                  go_wp2_with fail
                  refine (HSY.out _).mono ?_
                  rintro x w' ⟨rfl, rfl⟩
                  go_wp2_with fail
                  refine (rno_ok r2 5 (by omega)).mono ?_
                  rintro x w3 ⟨rfl, r3, k3⟩
                  rw [rno_zero] at r3
                  go_wp2_with fail
                  refine (rput_bad r3 (by omega) _ (by first | decide | omega) (by first | decide | omega)).mono ?_
                  rintro x w4 ⟨rfl, ov4, r4, k4⟩
                  have m4 := hide r4.errOf
                  go_wp2
                  go_roundw
                  case rel => exact ⟨_, ov4, o, 5, r4, Or.inr ⟨by omega, HR.out.symm⟩, (((kk.trans k1).trans k2).trans k3).trans k4⟩
                  case measure => rw [mr.out, me.out, m4.out]; simp; omega
                | some y0 =>
                  rw [hy] at hdec
                  simp only [] at hdec
                  rw [sixV_some hy] at hsy
                  have hy16 := hexVal_lt hy
                  have HR := hide hdec
                  have HSY := hide hsy
                  clear hsy hdec hy
                  have e16 : (16 * (x0 : Int) + (y0 : Int)) % 256 = ((16 * x0 + y0 : Nat) : Int) := by omega
                  go_wp2_with fail
                  refine HS2.out.mono ?_
                  rintro x w2 ⟨rfl, r2, k2⟩
                  go_wp2_with fail
                  refine (HSX.out _).mono ?_
                  rintro x w' ⟨rfl, rfl⟩
                  go_wp2_with fail
                  refine (HSY.out _).mono ?_
                  rintro x w' ⟨rfl, rfl⟩
                  have HP := hide (rput_ok r2 (16 * x0 + y0) (by omega))
                  by_cases c5 : o.length + 1 ≤ most
                  · rw [rput_room c5] at HP
                    have HR2 := hide (HR.out.symm.trans (if_pos c5))
                    go_wp2_with fail
                    refine HP.out.mono ?_
                    rintro x w3 ⟨rfl, ov3, r3, k3⟩
                    have m3 := hide r3.errOf
                    have m4 := hide r3.posOf
                    go_wp2
                    go_roundw
                    case rel => exact ⟨_, ov3, _, 0, r3, Or.inl ⟨rfl, hq2, f'', HR2.out.symm, by omega⟩, ((kk.trans k1).trans k2).trans k3⟩
                    case measure => rw [mr.out, me.out, m3.out, m4.out]; simp; omega
                  · rw [rput_full c5] at HP
                    have HR2 := hide (HR.out.symm.trans (if_neg c5))
                    go_wp2_with fail
                    refine HP.out.mono ?_
                    rintro x w3 ⟨rfl, ov3, r3, k3⟩
                    have m3 := hide r3.errOf
                    go_wp2
                    go_roundw
                    case rel => exact ⟨_, ov3, _, 6, r3, Or.inr ⟨by omega, HR2.out⟩, ((kk.trans k1).trans k2).trans k3⟩
                    case measure => rw [mr.out, me.out, m3.out]; simp; omega
    · have he' : ((e : Int) == 0) = false := by simp; omega
      have HRR := hide hR
      clear hR HST
      go_wp2
      go_end0
      exact ⟨rfl, q, ov', o, e, r, by rw [HRR.out]; exact ⟨rfl, he⟩, kk⟩
end Go.Proofs.YtgkljcmjnphpeaaGreatDoor
namespace Go.Proofs.YtgkljcmjnphpeaaGreatDoor
open Go.RowKit
variable {B b : Nat} {S : ByteArray} {most : Nat} {w : World} {p : Nat} {ov : Value} {out : List Nat} {e : Nat}
/-- Bytes come out, one behind the other. -/
def rputs (most : Nat) (l : List Nat) (s : List Nat × Nat) : List Nat × Nat := l.foldl (fun s c => rput most c s) s
theorem rputs_snoc (most : Nat) (l : List Nat) (c : Nat) (s : List Nat × Nat) : rputs most (l ++ [c]) s = rput most c (rputs most l s) := by simp [rputs]
theorem rputs_err (most : Nat) (l : List Nat) {n : Nat} (h : n ≠ 0) (o : List Nat) : rputs most l (o, n) = (o, n) := by
  induction l with
  | nil => rfl
  | cons c l ih =>
    show rputs most l (rput most c (o, n)) = _
    rw [rput_err h]; exact ih
theorem rputs_room (most : Nat) : ∀ (l : List Nat) (o : List Nat), o.length + l.length ≤ most → rputs most l (o, 0) = (o ++ l, 0)
  | [], o, _ => by simp [rputs]
  | c :: l, o, h => by
    simp only [List.length_cons] at h
    show rputs most l (rput most c (o, 0)) = _
    rw [rput_room (by omega), rputs_room most l _ (by simp; omega)]
    simp
theorem rputs_full (most : Nat) : ∀ (l : List Nat) (o : List Nat), o.length ≤ most → most < o.length + l.length → (rputs most l (o, 0)).2 = 6
  | [], o, h0, h => by
    simp at h; omega
  | c :: l, o, h0, h => by
    simp only [List.length_cons] at h
    show (rputs most l (rput most c (o, 0))).2 = _
    by_cases c1 : o.length + 1 ≤ most
    · rw [rput_room c1]
      exact rputs_full most l _ (by simp; omega) (by simp; omega)
    · rw [rput_full c1, rputs_err most l (by omega)]
/-- Four bytes of a number. -/
def g85 (n : Nat) : List Nat := [n / 16777216 % 256, n / 65536 % 256, n / 256 % 256, n % 256]
theorem g85_small {n : Nat} (h : n < 4294967296) : g85 n = a85Out n := by
  unfold g85 a85Out
  rw [Nat.mod_eq_of_lt (show n / 16777216 < 256 by omega)]
def ge85 (n e : Nat) : Nat := if 4294967296 ≤ n then rno 5 e else e
theorem take_g85 (n i : Nat) (hi : i < 4) : (g85 n).take (i + 1) = (g85 n).take i ++ [nth (g85 n) i] := by
  match i, hi with
  | 0, _ => rfl
  | 1, _ => rfl
  | 2, _ => rfl
  | 3, _ => rfl
set_option maxRecDepth 100000 in
theorem group_ok (h : RIn B b S most w p ov out e) (n k : Nat) (hn : n ≤ 5000000000) (hk : k ≤ 4) :
    Calls Tryz.prog 110 #[.pointer (some ⟨b, 0, none⟩), .int .i64 n, .int .i64 k] w fun x w' => x = .returned (.tuple #[]) ∧ ∃ ov', RIn B b S most w' p ov' (rputs most ((g85 n).take k) (out, ge85 n e)).1 (rputs most ((g85 n).take k) (out, ge85 n e)).2 ∧ Kept 5 B [b] w w' := by
  obtain ⟨G, hG⟩ : ∃ G, ge85 n e = G := ⟨_, rfl⟩
  rw [hG]
  by_cases hbig : 4294967296 ≤ n
  · have hb' : (4294967296 : Int) ≤ n := by omega
    have hge : rno 5 e = G := by rw [← hG, ge85, if_pos hbig]
    have HNO := hide (rno_ok h 5 (by omega))
    rw [hge] at HNO
    clear hG hge
    go_enter Tryz.func110, Tryz.ntmps110
    go_wp2_with fail
    refine HNO.out.mono ?_
    rintro x w1 ⟨rfl, r1, k1⟩
    go_wp2
    go_loopw [6] (fun i wr => ∃ (j : Nat) (ov' : Value), j ≤ k ∧ i = .int .i64 j ∧ RIn B b S most wr p ov' (rputs most ((g85 n).take j) (out, G)).1 (rputs most ((g85 n).take j) (out, G)).2 ∧ Kept 5 B [b] w wr) (fun i _ => k - (intOf i).toNat)
    case atStart => exact ⟨0, ov, Nat.zero_le _, rfl, by simpa [rputs] using r1, k1⟩
    clear r1 k1 hbig hb'
    case round =>
      obtain ⟨j, ov', hj, rfl, r, kk⟩ := hrel
      by_cases hjk : j < k
      · have hjk' : (j : Int) < k := by omega
        have HT := hide (take_g85 n j (by omega))
        have HSN := hide (rputs_snoc most ((g85 n).take j) (nth (g85 n) j) (out, G))
        obtain rfl | rfl | rfl | rfl : j = 0 ∨ j = 1 ∨ j = 2 ∨ j = 3 := by omega
        · go_wp2_with fail
          refine (rput_any r _ (n / 16777216 % 256) (by omega) (by omega)).mono ?_
          rintro x w2 ⟨rfl, ov2, r2, k2⟩
          go_wp2
          go_roundw
          case rel => exact ⟨1, ov2, hjk, rfl, by rw [HT.out, HSN.out]; exact r2, kk.trans k2⟩
          case measure => simp [intOf]; omega
        · go_wp2_with fail
          refine (rput_any r _ (n / 65536 % 256) (by omega) (by omega)).mono ?_
          rintro x w2 ⟨rfl, ov2, r2, k2⟩
          go_wp2
          go_roundw
          case rel => exact ⟨2, ov2, hjk, rfl, by rw [HT.out, HSN.out]; exact r2, kk.trans k2⟩
          case measure => simp [intOf]; omega
        · go_wp2_with fail
          refine (rput_any r _ (n / 256 % 256) (by omega) (by omega)).mono ?_
          rintro x w2 ⟨rfl, ov2, r2, k2⟩
          go_wp2
          go_roundw
          case rel => exact ⟨3, ov2, hjk, rfl, by rw [HT.out, HSN.out]; exact r2, kk.trans k2⟩
          case measure => simp [intOf]; omega
        · go_wp2_with fail
          refine (rput_any r _ (n % 256) (by omega) (by omega)).mono ?_
          rintro x w2 ⟨rfl, ov2, r2, k2⟩
          go_wp2
          go_roundw
          case rel => exact ⟨4, ov2, hjk, rfl, by rw [HT.out, HSN.out]; exact r2, kk.trans k2⟩
          case measure => simp [intOf]; omega
      · obtain rfl : j = k := by omega
        go_wp2
        go_end0
        exact ⟨rfl, ov', r, kk⟩
  · have hb' : ¬ (4294967296 : Int) ≤ n := by omega
    have hge : e = G := by rw [← hG, ge85, if_neg hbig]
    subst hge
    have r1 := h
    have k1 := Kept.refl 5 B [b] w
    clear hG h
    go_enter Tryz.func110, Tryz.ntmps110
    go_wp2
    go_loopw [6] (fun i wr => ∃ (j : Nat) (ov' : Value), j ≤ k ∧ i = .int .i64 j ∧ RIn B b S most wr p ov' (rputs most ((g85 n).take j) (out, e)).1 (rputs most ((g85 n).take j) (out, e)).2 ∧ Kept 5 B [b] w wr) (fun i _ => k - (intOf i).toNat)
    case atStart => exact ⟨0, ov, Nat.zero_le _, rfl, by simpa [rputs] using r1, k1⟩
    clear r1 k1 hbig hb'
    case round =>
      obtain ⟨j, ov', hj, rfl, r, kk⟩ := hrel
      by_cases hjk : j < k
      · have hjk' : (j : Int) < k := by omega
        have HT := hide (take_g85 n j (by omega))
        have HSN := hide (rputs_snoc most ((g85 n).take j) (nth (g85 n) j) (out, e))
        obtain rfl | rfl | rfl | rfl : j = 0 ∨ j = 1 ∨ j = 2 ∨ j = 3 := by omega
        · go_wp2_with fail
          refine (rput_any r _ (n / 16777216 % 256) (by omega) (by omega)).mono ?_
          rintro x w2 ⟨rfl, ov2, r2, k2⟩
          go_wp2
          go_roundw
          case rel => exact ⟨1, ov2, hjk, rfl, by rw [HT.out, HSN.out]; exact r2, kk.trans k2⟩
          case measure => simp [intOf]; omega
        · go_wp2_with fail
          refine (rput_any r _ (n / 65536 % 256) (by omega) (by omega)).mono ?_
          rintro x w2 ⟨rfl, ov2, r2, k2⟩
          go_wp2
          go_roundw
          case rel => exact ⟨2, ov2, hjk, rfl, by rw [HT.out, HSN.out]; exact r2, kk.trans k2⟩
          case measure => simp [intOf]; omega
        · go_wp2_with fail
          refine (rput_any r _ (n / 256 % 256) (by omega) (by omega)).mono ?_
          rintro x w2 ⟨rfl, ov2, r2, k2⟩
          go_wp2
          go_roundw
          case rel => exact ⟨3, ov2, hjk, rfl, by rw [HT.out, HSN.out]; exact r2, kk.trans k2⟩
          case measure => simp [intOf]; omega
        · go_wp2_with fail
          refine (rput_any r _ (n % 256) (by omega) (by omega)).mono ?_
          rintro x w2 ⟨rfl, ov2, r2, k2⟩
          go_wp2
          go_roundw
          case rel => exact ⟨4, ov2, hjk, rfl, by rw [HT.out, HSN.out]; exact r2, kk.trans k2⟩
          case measure => simp [intOf]; omega
      · obtain rfl : j = k := by omega
        go_wp2
        go_end0
        exact ⟨rfl, ov', r, kk⟩
end Go.Proofs.YtgkljcmjnphpeaaGreatDoor
