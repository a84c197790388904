/- The file's scanner: what makes a reference of a number. -/
import Derived.Test.YtgkljcmjnphpeaaGreatDoorK04
import Derived.Test.YtgkljcmjnphpeaaGreatDoorK03
set_option linter.unusedVariables false
set_option linter.unusedSimpArgs false
namespace Go.Proofs.YtgkljcmjnphpeaaGreatDoor
open Go.RowKit
/-- Does a digit of base 8 come? -/
def octHead : List Nat → Bool
  | [] => false
  | b :: _ => decide (48 ≤ b) && decide (b ≤ 55)
namespace Fo
def octGo : Nat → Nat → List Nat → Nat × List Nat
  | 0, n, r => (n, r)
  | k + 1, n, r => if octHead r then octGo k (8 * n + (r.headD 0 - 48)) r.tail else (n, r)
def octal (r : List Nat) : Nat × List Nat := octGo 3 0 r
def escaped (b : Nat) : Option Nat := if b = 110 then some 10 else if b = 114 then some 13 else if b = 116 then some 9 else if b = 98 then some 8 else if b = 102 then some 12 else if b = 40 ∨ b = 41 ∨ b = 92 then some b else none
/-- What stands behind a backslash: the bytes that it means, and what is left. -/
def behind (r : List Nat) : Option (List Nat × List Nat) :=
  match lineEnd r with
  | some q => some ([], q)
  | none => if octHead r then (if (octal r).1 ≤ 255 then some ([(octal r).1], (octal r).2) else none) else match r with
    | [] => none
    | b :: t => match escaped b with
      | none => none
      | some c => some ([c], t)
end Fo
variable {B bs cap : Nat} {ao : Option Addr} {data : List Nat} {x2 x3 x4 : Value} {w w' : World} {r q : List Nat}
variable {w0 : World} {ov : Value} {out : List Nat}
set_option maxRecDepth 100000 in
set_option maxHeartbeats 1000000 in
theorem soctAhead_ok (h : Sc B bs ao cap data x2 x3 x4 w r) :
    Calls Tryz.prog 324 #[.pointer (some ⟨bs, 0, none⟩)] w fun e w' => e = .returned (.bool (octHead r)) ∧ ∃ m, w' = w.drewN m := by
  have H := hide h
  cases r with
  | nil =>
    have t1 : decide ((0 : Int) < (([] : List Nat).length : Int)) = false := by simp
    clear h
    go_enter Tryz.func324, Tryz.ntmps324
    go_wp2_with fail
    go_quiet ((go_at_call 190; exact Calls.quiet_of (sleft_ok (H.out.drewN _))))
    go_wp2
    go_ret
    exact ⟨rfl, nq, rfl⟩
  | cons b t =>
    obtain ⟨hlt, _, hb, bd, o, rfl, hbd, hc⟩ := h.cons
    have c0 := h.c0
    have c1 := h.c1
    have hlen := h.len
    have hlc := h.lc
    have t1 : decide ((0 : Int) < ((b :: t).length : Int)) = true := by simp only [List.length_cons, decide_eq_true_eq]; omega
    clear h
    have e1 : (decide ((48 : Int) ≤ (b : Int)) && decide ((b : Int) ≤ 55)) = octHead (b :: t) := by
      unfold octHead
      rw [Bool.eq_iff_iff]; simp; omega
    have HW := hide (fun W => within_byte (b : Int) 48 55 W)
    rw [e1] at HW
    clear e1
    generalize octHead (b :: t) = v at *
    generalize data.length - (b :: t).length = p at *
    have hltI : (p : Int) < (data.length : Int) := by omega
    go_enter Tryz.func324, Tryz.ntmps324
    go_wp2_with fail
    go_quiet (first | (go_at_call 190; exact Calls.quiet_of (sleft_ok (H.out.drewN _))) | (go_at_call 216; exact Calls.quiet_of_same (HW.out _)))
    go_wp2
    go_ret
    exact ⟨by simp, nq, rfl⟩
theorem octGo_suf : ∀ (k n : Nat) (r : List Nat), (Fo.octGo k n r).2 <:+ r
  | 0, n, r => List.suffix_refl _
  | k + 1, n, r => by
    simp only [Fo.octGo]
    split
    · exact (octGo_suf k _ r.tail).trans (List.tail_suffix r)
    · exact List.suffix_refl _
/-- What octal comes to. -/
def OctTo (B bs : Nat) (ao : Option Addr) (cap : Nat) (data : List Nat) (x2 x3 x4 : Value) (w : World) (N : Nat) (Q : List Nat) (e : Ending) (w' : World) : Prop :=
  if N ≤ 255 then e = .returned (.int .u8 (N : Nat)) ∧ Sc B bs ao cap data x2 x3 x4 w' Q ∧ Only bs w w' else e = gaveUp 4 ∧ Only bs w w'
set_option maxRecDepth 100000 in
set_option maxHeartbeats 1000000 in
theorem soctal_ok (h : Sc B bs ao cap data x2 x3 x4 w r) :
    Calls Tryz.prog 325 #[.pointer (some ⟨bs, 0, none⟩)] w (OctTo B bs ao cap data x2 x3 x4 w (Fo.octal r).1 (Fo.octal r).2) := by
  have H := hide h
  clear h
  obtain ⟨N, Q, hNQ⟩ : ∃ N Q, Fo.octal r = (N, Q) := ⟨_, _, rfl⟩
  have HNQ : Hid (Fo.octGo 3 0 r = (N, Q)) := hNQ
  rw [hNQ]
  clear hNQ
  simp only []
  go_enter Tryz.func325, Tryz.ntmps325
  go_wp2
  go_loopw [3, 4] (fun n i wr => ∃ (k N1 : Nat) (q : List Nat), k ≤ 3 ∧ Hid (N1 < 8 ^ k) ∧ n = .int .i64 (N1 : Nat) ∧ i = .int .i64 (k : Nat) ∧ Hid (Sc B bs ao cap data x2 x3 x4 wr q) ∧ Hid (Only bs w wr) ∧ Hid (Fo.octGo (3 - k) N1 q = (N, Q))) (fun _ i _ => 3 - (intOf i).toNat)
  case atStart => exact ⟨0, 0, r, by omega, hide (by omega), rfl, rfl, H, Only.refl _ _, HNQ⟩
  clear H HNQ
  case round =>
    obtain ⟨k, N1, q, hk, HN1, rfl, rfl, HQ, HO, HG⟩ := hrel
    have hN512 : N1 < 512 := by
      have : (8 : Nat) ^ k ≤ 8 ^ 3 := Nat.pow_le_pow_right (by omega) hk
      have := HN1.out
      omega
    have HA := hide (soctAhead_ok HQ.out)
    by_cases hk3 : k < 3
    · have hk3' : decide ((k : Int) < 3) = true := by simp; omega
      cases hh : octHead q
      · rw [hh] at HA
        obtain ⟨rfl, rfl⟩ : N1 = N ∧ q = Q := by
          have := HG.out
          obtain ⟨j, hj⟩ : ∃ j, 3 - k = j + 1 := ⟨2 - k, by omega⟩
          rw [hj, Fo.octGo, hh] at this
          simpa using this
        clear HG hh
        by_cases h255 : N1 ≤ 255
        · have hu8 : IntKind.u8.wrap (N1 : Int) = (N1 : Int) := by rw [IntKind.wrap_u8]; omega
          go_wp2_with fail
          refine HA.out.mono ?_
          rintro e w1 ⟨rfl, m, rfl⟩
          go_wp2_with fail
          refine (within_int_yes (N1 : Int) 0 255 _ (by omega) (by omega)).mono ?_
          rintro e w' ⟨rfl, rfl⟩
          go_wp2_with fail
          refine (smust_yes _).mono ?_
          rintro e w' ⟨rfl, rfl⟩
          go_wp2
          go_ret
          unfold OctTo
          rw [if_pos h255]
          exact ⟨rfl, HQ.out.drewN m, HO.out.drewN m⟩
        · go_wp2_with fail
          refine HA.out.mono ?_
          rintro e w1 ⟨rfl, m, rfl⟩
          go_wp2_with fail
          refine (within_int_no (N1 : Int) 0 255 _ (Or.inr (by omega))).mono ?_
          rintro e w' ⟨rfl, rfl⟩
          go_wp2_with fail
          refine (smust_no _).mono ?_
          rintro e w' ⟨rfl, rfl⟩
          refine ⟨rfl, ?_⟩
          unfold OctTo
          rw [if_neg h255]
          exact ⟨rfl, HO.out.drewN m⟩
      · rw [hh] at HA
        cases q with
        | nil => cases hh
        | cons b t =>
          have hb : 48 ≤ b ∧ b ≤ 55 := by simpa [octHead] using hh
          have HG2 : Hid (Fo.octGo (3 - (k + 1)) (8 * N1 + (b - 48)) t = (N, Q)) := by
            have := HG.out
            obtain ⟨j, hj⟩ : ∃ j, 3 - k = j + 1 := ⟨2 - k, by omega⟩
            rw [hj, Fo.octGo, hh] at this
            unfold Hid
            rw [show 3 - (k + 1) = j by omega]
            simpa using this
          have HN2 : Hid (8 * N1 + (b - 48) < 8 ^ (k + 1)) := by
            have := HN1.out
            unfold Hid
            rw [Nat.pow_succ]; omega
          have HNX := hide (fun m => snext_ok (HQ.out.drewN m))
          have hs : IntKind.u8.wrap ((b : Int) - 48) = (b : Int) - 48 := by rw [IntKind.wrap_u8]; omega
          have he : (N1 : Int) * 8 + ((b : Int) - 48) = ((8 * N1 + (b - 48) : Nat) : Int) := by omega
          have HE := hide he
          clear HG hh he HN1
          go_wp2_with fail
          refine HA.out.mono ?_
          rintro e w1 ⟨rfl, m, rfl⟩
          go_wp2_with fail
          refine (HNX.out m).mono ?_
          rintro e w2 ⟨rfl, h2, k2⟩
          have H2 := hide h2
          have K2 := hide ((HO.out.drewN m).trans k2)
          clear h2 k2
          go_wp2
          go_roundw
          case rel => exact ⟨k + 1, 8 * N1 + (b - 48), t, by omega, HN2, by rw [← HE.out], by go_num, H2, K2, HG2⟩
          case measure => simp [intOf]; omega
    · have hk3' : decide ((k : Int) < 3) = false := by simp; omega
      obtain ⟨rfl, rfl⟩ : N1 = N ∧ q = Q := by
        have := HG.out
        rw [show 3 - k = 0 by omega, Fo.octGo] at this
        simpa using this
      clear HG HA
      by_cases h255 : N1 ≤ 255
      · have hu8 : IntKind.u8.wrap (N1 : Int) = (N1 : Int) := by rw [IntKind.wrap_u8]; omega
        go_wp2_with fail
        refine (within_int_yes (N1 : Int) 0 255 _ (by omega) (by omega)).mono ?_
        rintro e w' ⟨rfl, rfl⟩
        go_wp2_with fail
        refine (smust_yes _).mono ?_
        rintro e w' ⟨rfl, rfl⟩
        go_wp2
        go_ret
        unfold OctTo
        rw [if_pos h255]
        exact ⟨rfl, HQ.out, HO.out⟩
      · go_wp2_with fail
        refine (within_int_no (N1 : Int) 0 255 _ (Or.inr (by omega))).mono ?_
        rintro e w' ⟨rfl, rfl⟩
        go_wp2_with fail
        refine (smust_no _).mono ?_
        rintro e w' ⟨rfl, rfl⟩
        refine ⟨rfl, ?_⟩
        unfold OctTo
        rw [if_neg h255]
        exact ⟨rfl, HO.out⟩
/-- What escaped comes to. -/
def EscTo (b : Nat) (w : World) (e : Ending) (w' : World) : Prop :=
  match Fo.escaped b with
  | some c => e = .returned (.int .u8 (c : Nat)) ∧ w' = w
  | none => e = gaveUp 4 ∧ w' = w
theorem sesc_110 (w : World) : Calls Tryz.prog 326 #[.int .u8 (110 : Nat)] w (EscTo 110 w) := by
  go_enter Tryz.func326, Tryz.ntmps326
  go_wp2
  go_ret
  exact ⟨rfl, rfl⟩
theorem sesc_114 (w : World) : Calls Tryz.prog 326 #[.int .u8 (114 : Nat)] w (EscTo 114 w) := by
  go_enter Tryz.func326, Tryz.ntmps326
  go_wp2
  go_ret
  exact ⟨rfl, rfl⟩
theorem sesc_116 (w : World) : Calls Tryz.prog 326 #[.int .u8 (116 : Nat)] w (EscTo 116 w) := by
  go_enter Tryz.func326, Tryz.ntmps326
  go_wp2
  go_ret
  exact ⟨rfl, rfl⟩
theorem sesc_98 (w : World) : Calls Tryz.prog 326 #[.int .u8 (98 : Nat)] w (EscTo 98 w) := by
  go_enter Tryz.func326, Tryz.ntmps326
  go_wp2
  go_ret
  exact ⟨rfl, rfl⟩
theorem sesc_102 (w : World) : Calls Tryz.prog 326 #[.int .u8 (102 : Nat)] w (EscTo 102 w) := by
  go_enter Tryz.func326, Tryz.ntmps326
  go_wp2
  go_ret
  exact ⟨rfl, rfl⟩
theorem sesc_40 (w : World) : Calls Tryz.prog 326 #[.int .u8 (40 : Nat)] w (EscTo 40 w) := by
  go_enter Tryz.func326, Tryz.ntmps326
  go_wp2_with (go_at_call 99; refine (smust_yes _).mono ?_; rintro e w' ⟨rfl, rfl⟩)
  go_ret
  exact ⟨rfl, rfl⟩
theorem sesc_41 (w : World) : Calls Tryz.prog 326 #[.int .u8 (41 : Nat)] w (EscTo 41 w) := by
  go_enter Tryz.func326, Tryz.ntmps326
  go_wp2_with (go_at_call 99; refine (smust_yes _).mono ?_; rintro e w' ⟨rfl, rfl⟩)
  go_ret
  exact ⟨rfl, rfl⟩
theorem sesc_92 (w : World) : Calls Tryz.prog 326 #[.int .u8 (92 : Nat)] w (EscTo 92 w) := by
  go_enter Tryz.func326, Tryz.ntmps326
  go_wp2_with (go_at_call 99; refine (smust_yes _).mono ?_; rintro e w' ⟨rfl, rfl⟩)
  go_ret
  exact ⟨rfl, rfl⟩
theorem sescaped_ok (b : Nat) (w : World) : Calls Tryz.prog 326 #[.int .u8 (b : Nat)] w (EscTo b w) := by
  by_cases h110 : b = 110
  · subst h110; exact sesc_110 w
  by_cases h114 : b = 114
  · subst h114; exact sesc_114 w
  by_cases h116 : b = 116
  · subst h116; exact sesc_116 w
  by_cases h98 : b = 98
  · subst h98; exact sesc_98 w
  by_cases h102 : b = 102
  · subst h102; exact sesc_102 w
  by_cases h40 : b = 40
  · subst h40; exact sesc_40 w
  by_cases h41 : b = 41
  · subst h41; exact sesc_41 w
  by_cases h92 : b = 92
  · subst h92; exact sesc_92 w
  have e110 : ((b : Int) == 110) = false := by simp; omega
  have e114 : ((b : Int) == 114) = false := by simp; omega
  have e116 : ((b : Int) == 116) = false := by simp; omega
  have e98 : ((b : Int) == 98) = false := by simp; omega
  have e102 : ((b : Int) == 102) = false := by simp; omega
  have e40 : ((b : Int) == 40) = false := by simp; omega
  have e41 : ((b : Int) == 41) = false := by simp; omega
  have e92 : ((b : Int) == 92) = false := by simp; omega
  have HE : Hid (Fo.escaped b = none) := by
    unfold Hid Fo.escaped
    rw [if_neg h110, if_neg h114, if_neg h116, if_neg h98, if_neg h102, if_neg (by omega)]
  clear h110 h114 h116 h98 h102 h40 h41 h92
  go_enter Tryz.func326, Tryz.ntmps326
  go_wp2_with fail
  refine (smust_no _).mono ?_
  rintro e w' ⟨rfl, rfl⟩
  refine ⟨rfl, ?_⟩
  unfold EscTo
  rw [HE.out]
  exact ⟨rfl, rfl⟩
/-- What appendEscaped comes to. -/
def BehindTo (w0 : World) (B bs : Nat) (ao : Option Addr) (cap : Nat) (data : List Nat) (x2 x3 x4 : Value) (out : List Nat) (o : Option (List Nat × List Nat)) (e : Ending) (w' : World) : Prop :=
  match o with
  | some (l, q) => ∃ v, e = .returned v ∧ Bu w0 B bs ao cap data x2 x3 x4 w' q v (out ++ l)
  | none => e = gaveUp 4 ∧ Only bs w0 w'
theorem BehindTo.none_ {o : Option (List Nat × List Nat)} (h : o = none) (k : Only bs w0 w') : BehindTo w0 B bs ao cap data x2 x3 x4 out o (gaveUp 4) w' := by
  subst h; exact ⟨rfl, k⟩
theorem BehindTo.some_ {o : Option (List Nat × List Nat)} {l q : List Nat} {v : Value} (h : o = some (l, q)) (hb : Bu w0 B bs ao cap data x2 x3 x4 w' q v (out ++ l)) : BehindTo w0 B bs ao cap data x2 x3 x4 out o (.returned v) w' := by
  subst h; exact ⟨v, rfl, hb⟩
theorem lineEnd_len {r q : List Nat} (h : Fo.lineEnd r = some q) : q.length + 1 ≤ r.length := by
  unfold Fo.lineEnd at h
  cases e1 : Fo.takes [13, 10] r with
  | some x => rw [e1] at h; cases h; have := (Fo.takes_len e1).1; simp only [List.length_cons, List.length_nil] at this; omega
  | none =>
    cases e2 : Fo.takes [10] r with
    | some x => rw [e1, e2] at h; cases h; have := (Fo.takes_len e2).1; simp only [List.length_cons, List.length_nil] at this; omega
    | none => rw [e1, e2] at h; have := (Fo.takes_len (show Fo.takes [13] r = some q from h)).1; simp only [List.length_cons, List.length_nil] at this; omega
theorem octal_len {r : List Nat} (h : octHead r = true) : (Fo.octal r).2.length + 1 ≤ r.length := by
  cases r with
  | nil => cases h
  | cons b t =>
    unfold Fo.octal
    rw [Fo.octGo, if_pos h]
    have := (octGo_suf 2 (8 * 0 + ((b :: t).headD 0 - 48)) (b :: t).tail).length_le
    simp only [List.tail_cons, List.length_cons] at this ⊢; omega
set_option maxRecDepth 100000 in
set_option maxHeartbeats 1000000 in
theorem sappendEscaped_ok (h : Bu w0 B bs ao cap data x2 x3 x4 w q ov out) :
    Calls Tryz.prog 305 #[.pointer (some ⟨bs, 0, none⟩), ov] w (BehindTo w0 B bs ao cap data x2 x3 x4 out (Fo.behind q)) := by
  obtain ⟨i0, hi, hz0, hz1, hz2⟩ := info_parts Tryz.infoByte
  have H := hide h
  have HL := hide (slineEnd_ok h.sc)
  have hln := h.sc.len
  clear h
  obtain ⟨R, hR⟩ : ∃ R, Fo.behind q = R := ⟨_, rfl⟩
  rw [hR]
  have HR := hide hR
  clear hR
  cases hl : Fo.lineEnd q with
  | some q1 =>
    rw [hl] at HL
    have HE : Hid (R = some ([], q1)) := by unfold Hid; rw [← HR.out]; unfold Fo.behind; rw [hl]
    have hle := lineEnd_len hl
    clear hl HR
    go_enter Tryz.func305, Tryz.ntmps305
    go_wp2_with fail
    refine HL.out.mono ?_
    rintro e w1 ⟨rfl, h1, k1⟩
    have H1 := hide (H.out.step (show Sc B bs ao cap data x2 x3 x4 w1 q1 from h1) k1 (by omega))
    clear h1 k1
    go_wp2
    go_ret
    exact BehindTo.some_ HE.out (by rw [List.append_nil]; exact H1.out)
  | none =>
    rw [hl] at HL
    go_enter Tryz.func305, Tryz.ntmps305
    go_wp2_with fail
    refine HL.out.mono ?_
    rintro e w1 ⟨rfl, h1, k1⟩
    have H1 := hide (H.out.step (show Sc B bs ao cap data x2 x3 x4 w1 q from h1) k1 (Nat.le_refl _))
    have HA := hide (soctAhead_ok H1.out.sc)
    clear h1 k1 HL H
    cases ho : octHead q
    · rw [ho] at HA
      cases q with
      | nil =>
        have HE : Hid (R = none) := by unfold Hid; rw [← HR.out]; unfold Fo.behind; rw [hl]; simp [ho]
        have HN := hide (fun m => snext_no (H1.out.drewN m).sc)
        clear hl ho HR
        go_wp2_with fail
        refine HA.out.mono ?_
        rintro e w2 ⟨rfl, m, rfl⟩
        go_wp2_with fail
        refine (HN.out m).mono ?_
        rintro e w3 ⟨rfl, m3, rfl⟩
        exact ⟨rfl, BehindTo.none_ HE.out ((H1.out.drewN m).only.drewN m3)⟩
      | cons b t =>
        have HN := hide (fun m => snext_ok (H1.out.drewN m).sc)
        have HB : Hid (R = match Fo.escaped b with | none => none | some c => some ([c], t)) := by unfold Hid; rw [← HR.out]; unfold Fo.behind; rw [hl]; simp [ho]
        clear hl ho HR
        go_wp2_with fail
        refine HA.out.mono ?_
        rintro e w2 ⟨rfl, m, rfl⟩
        go_wp2_with fail
        refine (HN.out m).mono ?_
        rintro e w3 ⟨rfl, h3, k3⟩
        have H3 := hide ((H1.out.drewN m).step h3 k3 (by simp))
        have hfew := H1.out.few
        clear h3 k3 HN HA H1
        have HX := hide (sescaped_ok b w3)
        unfold EscTo at HX
        cases he : Fo.escaped b with
        | none =>
          rw [he] at HX HB
          simp only [] at HX HB
          clear he
          go_wp2_with fail
          refine HX.out.mono ?_
          rintro e w' ⟨rfl, rfl⟩
          exact ⟨rfl, BehindTo.none_ HB.out H3.out.only⟩
        | some c =>
          rw [he] at HX HB
          simp only [] at HX HB
          clear he
          go_wp2_with fail
          refine HX.out.mono ?_
          rintro e w' ⟨rfl, rfl⟩
          have hsz := H3.out.sz
          simp only [List.length_cons] at hfew
          go_wp2_with (at_builtin; refine wpList_append_own _ rfl (.tmp 15) (.tmp 19) 23 rfl w0.heap.size 5 i0 (.int .u8 0) 1 1 Tryz.underlying23 hi hz0 hz1 hz2 rfl (by decide) ov out.length _ rfl (H3.out.alloc _).own ⟨w'.heap.size, 0, none⟩ 1 1 ([c].map fun x : Nat => .int .u8 (x : Int)) rfl rfl (Bu.one_news c w') ?hone ?h63 ?hby ?hbs ?_)
          case hone => intro u hu; simp at hu; subst hu; rfl
          case h63 => unfold maxLen; omega
          case hby => omega
          case hbs => simp; omega
          intro v6 w6 own6 hg6 _
          have H6 := hide ((H3.out.alloc _).app (xs := [c]) (by simp) own6 hg6 (by simp only [List.length_cons, List.length_nil]; omega))
          clear own6 hg6
          go_wp2
          go_ret
          exact BehindTo.some_ HB.out H6.out
    · rw [ho] at HA
      have HO := hide (fun m => soctal_ok (H1.out.drewN m).sc)
      have hol := octal_len ho
      have HB : Hid (R = if (Fo.octal q).1 ≤ 255 then some ([(Fo.octal q).1], (Fo.octal q).2) else none) := by unfold Hid; rw [← HR.out]; unfold Fo.behind; rw [hl]; simp [ho]
      clear hl ho HR
      generalize (Fo.octal q).1 = N at *
      generalize (Fo.octal q).2 = Q at *
      unfold OctTo at HO
      go_wp2_with fail
      refine HA.out.mono ?_
      rintro e w2 ⟨rfl, m, rfl⟩
      by_cases h255 : N ≤ 255
      · simp only [if_pos h255] at HO
        have HB2 : Hid (R = some ([N], Q)) := by unfold Hid; rw [HB.out, if_pos h255]
        clear HB
        go_wp2_with fail
        refine (HO.out m).mono ?_
        rintro e w3 ⟨rfl, h3, k3⟩
        have H3 := hide ((H1.out.drewN m).step h3 k3 (by omega))
        have hfew := H1.out.few
        clear h3 k3 HO HA H1
        have hsz := H3.out.sz
        go_wp2_with (at_builtin; refine wpList_append_own _ rfl (.tmp 10) (.tmp 13) 23 rfl w0.heap.size 5 i0 (.int .u8 0) 1 1 Tryz.underlying23 hi hz0 hz1 hz2 rfl (by decide) ov out.length _ rfl (H3.out.alloc _).own ⟨w3.heap.size, 0, none⟩ 1 1 ([N].map fun x : Nat => .int .u8 (x : Int)) rfl rfl (Bu.one_news N w3) ?hone ?h63 ?hby ?hbs ?_)
        case hone => intro u hu; simp at hu; subst hu; rfl
        case h63 => unfold maxLen; omega
        case hby => omega
        case hbs => simp; omega
        intro v6 w6 own6 hg6 _
        have H6 := hide ((H3.out.alloc _).app (xs := [N]) (by simp) own6 hg6 (by simp only [List.length_cons, List.length_nil]; omega))
        clear own6 hg6
        go_wp2
        go_ret
        exact BehindTo.some_ HB2.out H6.out
      · simp only [if_neg h255] at HO
        have HB2 : Hid (R = none) := by unfold Hid; rw [HB.out, if_neg h255]
        clear HB
        go_wp2_with fail
        refine (HO.out m).mono ?_
        rintro e w3 ⟨rfl, k3⟩
        exact ⟨rfl, BehindTo.none_ HB2.out ((H1.out.drewN m).only.trans k3)⟩
end Go.Proofs.YtgkljcmjnphpeaaGreatDoor
namespace Go.Proofs.YtgkljcmjnphpeaaGreatDoor
open Go.RowKit
namespace Fo
/-- What stands behind a string's bracket, so many of which are open. -/
def strGo : Nat → Nat → List Nat → Option (List Nat × List Nat)
  | 0, _, _ => none
  | f + 1, o, r => match lineEnd r with
    | some q => (strGo f o q).map fun x => (10 :: x.1, x.2)
    | none => match r with
      | [] => none
      | b :: t => if b = 92 then (match behind t with
          | none => none
          | some (l, q) => (strGo f o q).map fun x => (l ++ x.1, x.2))
        else if b = 40 then (strGo f (o + 1) t).map fun x => (b :: x.1, x.2)
        else if b = 41 then (if o = 1 then some ([], t) else (strGo f (o - 1) t).map fun x => (b :: x.1, x.2))
        else (strGo f o t).map fun x => (b :: x.1, x.2)
def quoted (r : List Nat) : Option (List Nat × List Nat) := strGo (r.length + 1) 1 r
end Fo
theorem addTo_app (out l : List Nat) (o : Option (List Nat × List Nat)) : addTo out (o.map fun x => (l ++ x.1, x.2)) = addTo (out ++ l) o := by
  cases o with
  | none => rfl
  | some x => simp [addTo]
theorem behind_len {r l q : List Nat} (h : Fo.behind r = some (l, q)) : l.length + q.length ≤ r.length := by
  unfold Fo.behind at h
  cases hl : Fo.lineEnd r with
  | some x => rw [hl] at h; cases h; have := lineEnd_len hl; simp only [List.length_nil]; omega
  | none =>
    rw [hl] at h
    simp only [] at h
    by_cases ho : octHead r = true
    · rw [if_pos ho] at h
      by_cases h2 : (Fo.octal r).1 ≤ 255
      · rw [if_pos h2] at h; cases h; have := octal_len ho; simp only [List.length_cons, List.length_nil]; omega
      · rw [if_neg h2] at h; cases h
    · rw [if_neg ho] at h
      cases r with
      | nil => cases h
      | cons b t =>
        simp only [] at h
        cases he : Fo.escaped b with
        | none => rw [he] at h; cases h
        | some c => rw [he] at h; cases h; simp only [List.length_cons, List.length_nil]; omega
variable {B bs cap : Nat} {ao : Option Addr} {data : List Nat} {x2 x3 x4 : Value} {w w' : World} {r q : List Nat}
variable {w0 : World} {ov : Value} {out : List Nat}
set_option maxRecDepth 100000 in
set_option maxHeartbeats 4000000 in
theorem squoted_ok (h : Sc B bs ao cap data x2 x3 x4 w r) :
    Calls Tryz.prog 254 #[.pointer (some ⟨bs, 0, none⟩)] w (SRes B bs ao cap data x2 x3 x4 strV (Fo.quoted r) w) := by
  obtain ⟨i0, hi, hz0, hz1, hz2⟩ := info_parts Tryz.infoByte
  have H := hide (Bu.start h)
  have hln := h.len
  have hle0 := h.le
  clear h
  obtain ⟨R, hR⟩ : ∃ R, Fo.quoted r = R := ⟨_, rfl⟩
  rw [hR]
  have HR : Hid (addTo [] (Fo.strGo (r.length + 1) 1 r) = R) := by
    unfold Hid
    rw [← hR]; unfold Fo.quoted addTo
    cases Fo.strGo (r.length + 1) 1 r <;> simp
  clear hR
  go_enter Tryz.func254, Tryz.ntmps254
  go_wp2
  go_loopw [3, 4, 5] (fun u v _ wr => ∃ (f o : Nat) (q out : List Nat), v = .int .i64 (o : Nat) ∧ 1 ≤ o ∧ o + q.length ≤ 200001 ∧ q.length < f ∧ Hid (Bu w B bs ao cap data x2 x3 x4 wr q u out) ∧ Hid (addTo out (Fo.strGo f o q) = R)) (fun _ _ _ wr => data.length - posS bs wr)
  case atStart => exact ⟨r.length + 1, 1, r, [], rfl, by omega, by omega, by omega, H, HR⟩
  clear H HR
  case round =>
    obtain ⟨f, o, q, out, rfl, ho1, hoq, hf, HQ, HR⟩ := hrel
    obtain ⟨f, rfl⟩ : ∃ f', f = f' + 1 := ⟨f - 1, by omega⟩
    have HPQ := hide HQ.out.sc.posS
    have hqle := HQ.out.sc.le
    have hfew := HQ.out.few
    have HL := hide (slineEnd_ok HQ.out.sc)
    cases hl : Fo.lineEnd q with
    | some q1 =>
      rw [hl] at HL
      have HR1 : Hid (addTo (out ++ [10]) (Fo.strGo f o q1) = R) := by
        unfold Hid
        have e : Fo.strGo (f + 1) o q = (Fo.strGo f o q1).map fun x => (10 :: x.1, x.2) := by rw [Fo.strGo.eq_def]; simp only [hl]
        rw [← HR.out, ← addTo_map, e]
      have hle := lineEnd_len hl
      clear hl HR
      go_wp2_with fail
      refine HL.out.mono ?_
      rintro e w1 ⟨rfl, h1, k1⟩
      have H1 := hide (HQ.out.step (show Sc B bs ao cap data x2 x3 x4 w1 q1 from h1) k1 (by omega))
      clear h1 k1 HL
      have hsz := H1.out.sz
      go_wp2_with (at_builtin; refine wpList_append_own _ rfl (.tmp 8) (.tmp 9) 23 rfl w.heap.size 5 i0 (.int .u8 0) 1 1 Tryz.underlying23 hi hz0 hz1 hz2 rfl (by decide) u3 out.length _ rfl (H1.out.alloc _).own ⟨w1.heap.size, 0, none⟩ 1 1 ([10].map fun x : Nat => .int .u8 (x : Int)) rfl rfl (Bu.one_news 10 w1) ?hone ?h63 ?hby ?hbs ?_)
      case hone => intro u hu; simp at hu; subst hu; rfl
      case h63 => unfold maxLen; omega
      case hby => omega
      case hbs => simp; omega
      intro v6 w6 own6 hg6 _
      have H6 := hide ((H1.out.alloc _).app (xs := [10]) (by simp) own6 hg6 (by simp only [List.length_cons, List.length_nil]; omega))
      have HM6 := hide H6.out.sc.posS
      clear own6 hg6
      go_wp2
      go_roundw
      case rel => exact ⟨f, o, q1, out ++ [10], rfl, ho1, by omega, by omega, H6, HR1⟩
      case measure =>
        rw [HPQ.out, HM6.out]
        omega
    | none =>
      rw [hl] at HL
      cases q with
      | nil =>
        have HE : Hid (R = none) := by unfold Hid; rw [← HR.out, Fo.strGo, hl]; rfl
        clear hl HR
        go_wp2_with fail
        refine HL.out.mono ?_
        rintro e w1 ⟨rfl, h1, k1⟩
        have H1 := hide (HQ.out.step (show Sc B bs ao cap data x2 x3 x4 w1 [] from h1) k1 (Nat.le_refl _))
        have HN := hide (snext_no H1.out.sc)
        clear h1 k1 HL
        go_wp2_with fail
        refine HN.out.mono ?_
        rintro e w3 ⟨rfl, m3, rfl⟩
        exact ⟨rfl, SRes.none_ HE.out (H1.out.only.drewN m3)⟩
      | cons b t =>
        have hb256 : b < 256 := HQ.out.sc.bytes b (by simp)
        simp only [List.length_cons] at hoq hf hqle hfew
        go_wp2_with fail
        refine HL.out.mono ?_
        rintro e w1 ⟨rfl, h1, k1⟩
        have H1 := hide (HQ.out.step (show Sc B bs ao cap data x2 x3 x4 w1 (b :: t) from h1) k1 (Nat.le_refl _))
        have HN := hide (snext_ok H1.out.sc)
        clear h1 k1 HL
        go_wp2_with fail
        refine HN.out.mono ?_
        rintro e w2 ⟨rfl, h2, k2⟩
        have H2 := hide (H1.out.step h2 k2 (by simp))
        clear h2 k2 HN H1
        by_cases h92 : b = 92
        · have HR1 : Hid (addTo out (match Fo.behind t with | none => none | some (l, q) => (Fo.strGo f o q).map fun x => (l ++ x.1, x.2)) = R) := by
            unfold Hid
            rw [← HR.out, Fo.strGo, hl]
            simp [h92]
          have h92' : ((b : Int) == 92) = true := by rw [h92]; rfl
          clear hl HR h92
          have HX := hide (sappendEscaped_ok H2.out)
          unfold BehindTo at HX
          cases hbh : Fo.behind t with
          | none =>
            rw [hbh] at HX HR1
            simp only [] at HX HR1
            have HE : Hid (R = none) := by unfold Hid; rw [← HR1.out]; rfl
            clear hbh
            go_wp2_with fail
            refine HX.out.mono ?_
            rintro e w3 ⟨rfl, k3⟩
            exact ⟨rfl, SRes.none_ HE.out k3⟩
          | some x =>
            obtain ⟨l, q⟩ := x
            rw [hbh] at HX HR1
            simp only [] at HX HR1
            have hbl := behind_len hbh
            have HR2 : Hid (addTo (out ++ l) (Fo.strGo f o q) = R) := by unfold Hid; rw [← HR1.out, addTo_app]
            clear hbh HR1
            go_wp2_with fail
            refine HX.out.mono ?_
            rintro e w3 ⟨v3, rfl, h3⟩
            have H3 := hide h3
            have HM3 := hide h3.sc.posS
            have hq3 := h3.sc.le
            clear h3 HX
            go_wp2
            go_roundw
            case rel => exact ⟨f, o, q, out ++ l, rfl, ho1, by omega, by omega, H3, HR2⟩
            case measure =>
              rw [HPQ.out, HM3.out]
              simp only [List.length_cons]
              omega
        · have h92' : ((b : Int) == 92) = false := by simp; omega
          have hsz := H2.out.sz
          by_cases h40 : b = 40
          · have HR1 : Hid (addTo (out ++ [b]) (Fo.strGo f (o + 1) t) = R) := by
              unfold Hid
              rw [← HR.out, ← addTo_map]
              conv => rhs; rw [Fo.strGo, hl]
              simp [h40]
            have h40' : ((b : Int) == 40) = true := by rw [h40]; rfl
            have ho0 : ((o : Int) + 1 == 0) = false := by simp; omega
            clear hl HR h40 h92
            go_wp2_with (at_builtin; refine wpList_append_own _ rfl (.tmp 31) (.tmp 33) 23 rfl w.heap.size 5 i0 (.int .u8 0) 1 1 Tryz.underlying23 hi hz0 hz1 hz2 rfl (by decide) u3 out.length _ rfl (H2.out.alloc _).own ⟨w2.heap.size, 0, none⟩ 1 1 ([b].map fun x : Nat => .int .u8 (x : Int)) rfl rfl (Bu.one_news b w2) ?hone ?h63 ?hby ?hbs ?_)
            case hone => intro u hu; simp at hu; subst hu; rfl
            case h63 => unfold maxLen; omega
            case hby => omega
            case hbs => simp; omega
            intro v6 w6 own6 hg6 _
            have H6 := hide ((H2.out.alloc _).app (xs := [b]) (by simp) own6 hg6 (by simp only [List.length_cons, List.length_nil]; omega))
            have HM6 := hide H6.out.sc.posS
            clear own6 hg6
            go_wp2
            go_roundw
            case rel => exact ⟨f, o + 1, t, out ++ [b], by go_num, by omega, by omega, by omega, H6, HR1⟩
            case measure =>
              rw [HPQ.out, HM6.out]
              simp only [List.length_cons]; omega
          · have h40' : ((b : Int) == 40) = false := by simp; omega
            by_cases h41 : b = 41
            · have h41' : ((b : Int) == 41) = true := by rw [h41]; rfl
              by_cases hone : o = 1
              · subst hone
                have HE : Hid (R = some (out, t)) := by unfold Hid; rw [← HR.out, Fo.strGo, hl]; simp [h41, addTo]
                have hcv := string_own H2.out.own
                obtain ⟨S, hS⟩ : ∃ S, strN out = S := ⟨_, rfl⟩
                rw [hS] at hcv
                have HS := hide hS
                clear hl HR h40 h41 h92 hS
                go_wp2
                go_ret
                exact SRes.some_ HE.out (by rw [strV, HS.out]; rfl) H2.out.sc H2.out.only
              · have HR1 : Hid (addTo (out ++ [b]) (Fo.strGo f (o - 1) t) = R) := by
                  unfold Hid
                  rw [← HR.out, ← addTo_map]
                  conv => rhs; rw [Fo.strGo, hl]
                  simp [h41, hone]
                have ho0 : ((o : Int) - 1 == 0) = false := by simp; omega
                clear hl HR h40 h41 h92
                go_wp2_with (at_builtin; refine wpList_append_own _ rfl (.tmp 31) (.tmp 33) 23 rfl w.heap.size 5 i0 (.int .u8 0) 1 1 Tryz.underlying23 hi hz0 hz1 hz2 rfl (by decide) u3 out.length _ rfl (H2.out.alloc _).own ⟨w2.heap.size, 0, none⟩ 1 1 ([b].map fun x : Nat => .int .u8 (x : Int)) rfl rfl (Bu.one_news b w2) ?hone ?h63 ?hby ?hbs ?_)
                case hone => intro u hu; simp at hu; subst hu; rfl
                case h63 => unfold maxLen; omega
                case hby => omega
                case hbs => simp; omega
                intro v6 w6 own6 hg6 _
                have H6 := hide ((H2.out.alloc _).app (xs := [b]) (by simp) own6 hg6 (by simp only [List.length_cons, List.length_nil]; omega))
                have HM6 := hide H6.out.sc.posS
                clear own6 hg6
                go_wp2
                go_roundw
                case rel => exact ⟨f, o - 1, t, out ++ [b], by go_num, by omega, by omega, by omega, H6, HR1⟩
                case measure =>
                  rw [HPQ.out, HM6.out]
                  simp only [List.length_cons]; omega
            · have h41' : ((b : Int) == 41) = false := by simp; omega
              have HR1 : Hid (addTo (out ++ [b]) (Fo.strGo f o t) = R) := by
                unfold Hid
                rw [← HR.out, ← addTo_map]
                conv => rhs; rw [Fo.strGo, hl]
                simp [h41, h40, h92]
              have ho0 : ((o : Int) == 0) = false := by simp; omega
              clear hl HR h40 h41 h92
              go_wp2_with (at_builtin; refine wpList_append_own _ rfl (.tmp 31) (.tmp 33) 23 rfl w.heap.size 5 i0 (.int .u8 0) 1 1 Tryz.underlying23 hi hz0 hz1 hz2 rfl (by decide) u3 out.length _ rfl (H2.out.alloc _).own ⟨w2.heap.size, 0, none⟩ 1 1 ([b].map fun x : Nat => .int .u8 (x : Int)) rfl rfl (Bu.one_news b w2) ?hone ?h63 ?hby ?hbs ?_)
              case hone => intro u hu; simp at hu; subst hu; rfl
              case h63 => unfold maxLen; omega
              case hby => omega
              case hbs => simp; omega
              intro v6 w6 own6 hg6 _
              have H6 := hide ((H2.out.alloc _).app (xs := [b]) (by simp) own6 hg6 (by simp only [List.length_cons, List.length_nil]; omega))
              have HM6 := hide H6.out.sc.posS
              clear own6 hg6
              go_wp2
              go_roundw
              case rel => exact ⟨f, o, t, out ++ [b], rfl, by omega, by omega, by omega, H6, HR1⟩
              case measure =>
                rw [HPQ.out, HM6.out]
                simp only [List.length_cons]; omega
end Go.Proofs.YtgkljcmjnphpeaaGreatDoor
namespace Go.Proofs.YtgkljcmjnphpeaaGreatDoor
open Go.RowKit
variable {w : World}
namespace Fo
/-- A word's sign, and what stands behind it. -/
def cutSign : List Nat → List Nat × List Nat
  | [] => ([], [])
  | b :: t => if b = 43 ∨ b = 45 then ([b], t) else ([], b :: t)
def isDig (b : Nat) : Bool := decide (48 ≤ b) && decide (b ≤ 57)
/-- What digits count. -/
def numOf (l : List Nat) : Nat := l.foldl (fun n b => 10 * n + (b - 48)) 0
/-- A word as a number: digits behind a sign, or none. -/
def atoi (l : List Nat) : Option Int :=
  if (cutSign l).2 ≠ [] ∧ (cutSign l).2.all isDig = true then some (if (cutSign l).1 = [45] then -(numOf (cutSign l).2 : Int) else (numOf (cutSign l).2 : Int)) else none
end Fo
theorem bl_ext {a b : ByteArray} (h : bl a = bl b) : a = b := by rw [← strN_bl a, ← strN_bl b, h]
theorem bl_take (S : ByteArray) (k : Nat) (h : k ≤ S.size) : bl (S.extract 0 k) = (bl S).take k := by
  have := bl_part S 0 k (by omega)
  simpa using this
/-- Does a byte come first? -/
def headIs (c : Nat) : List Nat → Bool
  | [] => false
  | b :: _ => decide (b = c)
theorem hasPrefix1 (S : ByteArray) (c : UInt8) (hS : S.size ≤ 1000000) : Calls Tryz.prog 241 #[.string S, .string { data := #[c] }] w fun e w' => e = .returned (.bool (headIs c.toNat (bl S))) ∧ w' = w := by
  cases hs : bl S with
  | nil =>
    have h0 : S.size = 0 := by rw [← bl_len, hs]; rfl
    have t1 : decide ((1 : Int) ≤ (S.size : Int)) = false := by rw [h0]; rfl
    have hc : ({ data := #[c] } : ByteArray).size = 1 := rfl
    go_enter Tryz.func241, Tryz.ntmps241
    go_wp2
    go_ret
    exact ⟨rfl, rfl⟩
  | cons b t =>
    have h0 : 0 < S.size := by rw [← bl_len, hs]; simp
    have t1 : decide ((1 : Int) ≤ (S.size : Int)) = true := by simp; omega
    have h1I : (1 : Int) ≤ (S.size : Int) := by omega
    have hc : ({ data := #[c] } : ByteArray).size = 1 := rfl
    have he : ((S.extract 0 1).toList == ({ data := #[c] } : ByteArray).toList) = headIs c.toNat (b :: t) := by
      unfold headIs
      rw [strEq, decide_eq_decide]
      constructor
      · intro e
        have e2 := congrArg bl e
        rw [bl_take S 1 h0, hs, bl_one] at e2
        simpa using e2
      · intro e
        refine bl_ext ?_
        rw [bl_take S 1 h0, hs, bl_one]
        simp [e]
    have hl : ({ data := #[c] } : ByteArray).toList = [c] := by rw [ByteArray.toList_eq]
    rw [hl] at he
    generalize headIs c.toNat (b :: t) = v at *
    go_enter Tryz.func241, Tryz.ntmps241
    go_wp2
    go_ret
    exact ⟨by first | rfl | simp, rfl⟩
/-- A string's bytes are these. -/
def IsStr (l : List Nat) (v : Value) : Prop := v = .string (strN l)
theorem isStr_of {S : ByteArray} {l : List Nat} (h : bl S = l) : IsStr l (.string S) := by rw [IsStr, ← h, strN_bl]
set_option maxRecDepth 100000 in
set_option maxHeartbeats 1000000 in
theorem cutSign_ok (S : ByteArray) (hS : S.size ≤ 1000000) : Calls Tryz.prog 327 #[.string S] w fun e w' => (∃ a b, e = .returned (.tuple #[a, b]) ∧ IsStr (Fo.cutSign (bl S)).1 a ∧ IsStr (Fo.cutSign (bl S)).2 b) ∧ ∃ m, w' = w.drewN m := by
  have H43 := hide (fun W => hasPrefix1 (w := W) S 43 hS)
  have H45 := hide (fun W => hasPrefix1 (w := W) S 45 hS)
  rw [show (UInt8.toNat 43) = 43 from rfl] at H43
  rw [show (UInt8.toNat 45) = 45 from rfl] at H45
  cases hs : bl S with
  | nil =>
    rw [hs] at H43 H45
    have HE0 : Hid (S = { data := #[] }) := bl_ext (by rw [hs]; rfl)
    simp only [headIs] at H43 H45
    go_enter Tryz.func327, Tryz.ntmps327
    go_wp2_with fail
    refine (H43.out _).mono ?_
    rintro e w' ⟨rfl, rfl⟩
    go_wp2_with fail
    refine (H45.out _).mono ?_
    rintro e w' ⟨rfl, rfl⟩
    go_wp2_with fail
    go_ret2
    exact ⟨⟨_, _, rfl, rfl, by rw [HE0.out]; rfl⟩, 0, rfl⟩
  | cons b t =>
    rw [hs] at H43 H45
    simp only [headIs] at H43 H45
    have h0 : 0 < S.size := by rw [← bl_len, hs]; simp
    have h1I : (1 : Int) ≤ (S.size : Int) := by omega
    have e1 : IsStr [b] (.string (S.extract 0 1)) := isStr_of (by rw [bl_take S 1 h0, hs]; rfl)
    have e2 : IsStr t (.string (S.extract 1 S.size)) := isStr_of (by rw [bl_tail, hs]; rfl)
    have e3 : IsStr (b :: t) (.string S) := isStr_of hs
    have E := hide (And.intro e1 (And.intro e2 e3))
    clear e1 e2 e3
    by_cases h43 : b = 43
    · rw [decide_eq_true h43] at H43
      have HF : Hid (Fo.cutSign (b :: t) = ([b], t)) := by unfold Hid; simp [Fo.cutSign, h43]
      rw [HF.out]
      clear h43 hs
      go_enter Tryz.func327, Tryz.ntmps327
      go_wp2_with fail
      refine (H43.out _).mono ?_
      rintro e w' ⟨rfl, rfl⟩
      go_wp2_with fail
      go_quiet (fail)
      go_wp2
      go_ret2
      exact ⟨⟨_, _, rfl, E.out.1, E.out.2.1⟩, nq, rfl⟩
    · rw [decide_eq_false h43] at H43
      by_cases h45 : b = 45
      · rw [decide_eq_true h45] at H45
        have HF : Hid (Fo.cutSign (b :: t) = ([b], t)) := by unfold Hid; simp [Fo.cutSign, h45]
        rw [HF.out]
        clear h43 h45 hs
        go_enter Tryz.func327, Tryz.ntmps327
        go_wp2_with fail
        refine (H43.out _).mono ?_
        rintro e w' ⟨rfl, rfl⟩
        go_wp2_with fail
        refine (H45.out _).mono ?_
        rintro e w' ⟨rfl, rfl⟩
        go_wp2_with fail
        go_quiet (fail)
        go_wp2
        go_ret2
        exact ⟨⟨_, _, rfl, E.out.1, E.out.2.1⟩, nq, rfl⟩
      · rw [decide_eq_false h45] at H45
        have HF : Hid (Fo.cutSign (b :: t) = ([], b :: t)) := by unfold Hid; simp [Fo.cutSign, h43, h45]
        rw [HF.out]
        clear h43 h45 hs
        go_enter Tryz.func327, Tryz.ntmps327
        go_wp2_with fail
        refine (H43.out _).mono ?_
        rintro e w' ⟨rfl, rfl⟩
        go_wp2_with fail
        refine (H45.out _).mono ?_
        rintro e w' ⟨rfl, rfl⟩
        go_wp2_with fail
        go_ret2
        exact ⟨⟨_, _, rfl, rfl, E.out.2.2⟩, 0, rfl⟩
end Go.Proofs.YtgkljcmjnphpeaaGreatDoor
namespace Go.Proofs.YtgkljcmjnphpeaaGreatDoor
open Go.RowKit
namespace Fo
/-- What stands behind a reference's number. -/
def takesRef (r : List Nat) : Option (List Nat) := (takesWord [48] r).bind fun q => takesWord [82] q
end Fo
variable {B bs cap : Nat} {ao : Option Addr} {data : List Nat} {x2 x3 x4 : Value} {w w' : World} {r q : List Nat}
set_option maxRecDepth 100000 in
set_option maxHeartbeats 1000000 in
theorem stakesRef_ok (h : Sc B bs ao cap data x2 x3 x4 w r) :
    Calls Tryz.prog 309 #[.pointer (some ⟨bs, 0, none⟩)] w (TakesTo B bs ao cap data x2 x3 x4 w r (Fo.takesRef r)) := by
  have c1 := h.c1
  have H0 := hide (stakesWord_ok h { data := #[48] })
  rw [bl_one, show (UInt8.toNat 48) = 48 from rfl] at H0
  have hsuf := hide h.suf
  have hle := h.le
  have hln := h.len
  obtain ⟨p, hpe⟩ : ∃ p, data.length - r.length = p := ⟨_, rfl⟩
  rw [hpe] at c1
  have hp : p ≤ data.length := by omega
  have HPE := hide hpe
  clear h hpe
  have back : Hid (∀ W q1, Sc B bs ao cap data x2 x3 x4 W q1 → Sc B bs ao cap data x2 x3 x4 (W.setCell ⟨bs, 1, none⟩ (.int .i64 (p : Nat))) r) := fun W q1 hW => by
    have := hW.at_ p hp
    rw [← HPE.out, hsuf.out, HPE.out] at this
    exact this
  cases e0 : Fo.takesWord [48] r with
  | none =>
    rw [e0] at H0
    have HE : Hid (Fo.takesRef r = none) := by unfold Hid Fo.takesRef; rw [e0]; rfl
    rw [HE.out]
    clear e0
    go_enter Tryz.func309, Tryz.ntmps309
    go_wp2_with fail
    refine H0.out.mono ?_
    rintro e w1 ⟨rfl, h1, k1⟩
    have f1 := h1.fz 1
    have d1 := h1.c1
    have H1 := hide h1
    have K1 := hide k1
    clear h1 k1 c1
    go_wp2
    go_ret
    exact ⟨rfl, back.out _ _ H1.out, K1.out.setCell _ _⟩
  | some q0 =>
    rw [e0] at H0
    have HE : Hid (Fo.takesRef r = Fo.takesWord [82] q0) := by unfold Hid Fo.takesRef; rw [e0]; rfl
    rw [HE.out]
    clear e0
    go_enter Tryz.func309, Tryz.ntmps309
    go_wp2_with fail
    refine H0.out.mono ?_
    rintro e w1 ⟨rfl, h1, k1⟩
    have H2 := hide (stakesWord_ok (show Sc B bs ao cap data x2 x3 x4 w1 q0 from h1) { data := #[82] })
    rw [bl_one, show (UInt8.toNat 82) = 82 from rfl] at H2
    have K1 := hide k1
    clear h1 k1 c1
    cases e1 : Fo.takesWord [82] q0 with
    | none =>
      rw [e1] at H2
      have E1 := hide e1
      clear e1
      go_wp2_with fail
      refine H2.out.mono ?_
      rintro e w2 ⟨rfl, h2, k2⟩
      have f1 := h2.fz 1
      have d1 := h2.c1
      have H3 := hide h2
      have K3 := hide (K1.out.trans k2)
      clear h2 k2
      go_wp2
      go_ret
      exact ⟨by rw [E1.out]; rfl, by rw [E1.out]; exact back.out _ _ H3.out, K3.out.setCell _ _⟩
    | some q1 =>
      rw [e1] at H2
      have E1 := hide e1
      clear e1
      go_wp2_with fail
      refine H2.out.mono ?_
      rintro e w2 ⟨rfl, h2, k2⟩
      have H3 := hide h2
      have K3 := hide (K1.out.trans k2)
      clear h2 k2
      go_wp2
      go_ret
      exact ⟨by rw [E1.out]; rfl, by rw [E1.out]; exact H3.out, K3.out⟩
end Go.Proofs.YtgkljcmjnphpeaaGreatDoor
