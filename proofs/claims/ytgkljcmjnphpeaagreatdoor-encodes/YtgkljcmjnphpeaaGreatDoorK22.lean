/- The document's answer: filter 4: a block's own codes, plain. -/
import Derived.Test.YtgkljcmjnphpeaaGreatDoorK20
set_option linter.unusedVariables false
set_option linter.unusedSimpArgs false
namespace Go.Proofs.YtgkljcmjnphpeaaGreatDoor.Fo
/-- One more symbol of the lengths. -/
def lensStep (cs ss : List Nat) (r : List Bool) (L : List Nat) : Option (List Bool × List Nat) :=
  match sym cs ss r with
  | none => none
  | some (s, r1) =>
    if s < 16 then some (r1, L ++ [s])
    else if s = 16 ∧ L.length = 0 then none
    else if s = 16 then (if 2 ≤ r1.length then some (r1.drop 2, L ++ List.replicate (3 + val (r1.take 2)) (nth L (L.length - 1))) else none)
    else if s = 17 then (if 3 ≤ r1.length then some (r1.drop 3, L ++ List.replicate (3 + val (r1.take 3)) 0) else none)
    else if 7 ≤ r1.length then some (r1.drop 7, L ++ List.replicate (11 + val (r1.take 7)) 0) else none
/-- What the lengths come to. -/
def lensGo (cs ss : List Nat) (n : Nat) : Nat → List Bool → List Nat → Option (List Bool × List Nat)
  | 0, _, _ => none
  | k + 1, r, L => if n ≤ L.length then (if L.length = n then some (r, L) else none) else match lensStep cs ss r L with
    | none => none
    | some (r', L') => lensGo cs ss n k r' L'
def lensDec (cs ss : List Nat) (n : Nat) (r : List Bool) (L : List Nat) : Option (List Bool × List Nat) := lensGo cs ss n (r.length + 1) r L
theorem lensStep_shorter {cs ss : List Nat} {r r' : List Bool} {L L' : List Nat} (h : lensStep cs ss r L = some (r', L')) : r'.length < r.length := by
  unfold lensStep at h
  cases hs : sym cs ss r with
  | none => rw [hs] at h; cases h
  | some x =>
    obtain ⟨s, r1⟩ := x
    have := sym_shorter hs
    rw [hs] at h
    simp only [] at h
    split at h
    · cases h; exact this
    split at h
    · cases h
    split at h
    · split at h
      · cases h; rw [List.length_drop]; omega
      · cases h
    split at h
    · split at h
      · cases h; rw [List.length_drop]; omega
      · cases h
    split at h
    · cases h; rw [List.length_drop]; omega
    · cases h
theorem lensGo_fuel (cs ss : List Nat) (n : Nat) : ∀ k k' r L, r.length < k → r.length < k' → lensGo cs ss n k r L = lensGo cs ss n k' r L
  | 0, _, _, _, h, _ => absurd h (Nat.not_lt_zero _)
  | _ + 1, 0, _, _, _, h => absurd h (Nat.not_lt_zero _)
  | k + 1, k' + 1, r, L, h, h' => by
    simp only [lensGo]
    split
    · rfl
    · split
      · rfl
      · rename_i r' L' hs
        have := lensStep_shorter hs
        exact lensGo_fuel cs ss n k k' r' L' (by omega) (by omega)
theorem lensDec_end {cs ss : List Nat} {n : Nat} {r : List Bool} {L : List Nat} (h : n ≤ L.length) : lensDec cs ss n r L = if L.length = n then some (r, L) else none := by
  unfold lensDec; simp only [lensGo, if_pos h]
theorem lensDec_bad {cs ss : List Nat} {n : Nat} {r : List Bool} {L : List Nat} (h : L.length < n) (hs : lensStep cs ss r L = none) : lensDec cs ss n r L = none := by
  unfold lensDec; simp only [lensGo, if_neg (Nat.not_le.2 h), hs]
theorem lensDec_more {cs ss : List Nat} {n : Nat} {r r' : List Bool} {L L' : List Nat} (h : L.length < n) (hs : lensStep cs ss r L = some (r', L')) : lensDec cs ss n r L = lensDec cs ss n r' L' := by
  have e : lensGo cs ss n (r.length + 1) r L = lensGo cs ss n r.length r' L' := by simp only [lensGo, if_neg (Nat.not_le.2 h), hs]
  have := lensStep_shorter hs
  unfold lensDec; rw [e]
  exact lensGo_fuel cs ss n _ _ r' L' (by omega) (by omega)
end Go.Proofs.YtgkljcmjnphpeaaGreatDoor.Fo
namespace Go.Proofs.YtgkljcmjnphpeaaGreatDoor
open Go.RowKit
variable {B b : Nat} {S : ByteArray} {most : Nat} {w : World} {p : Nat} {ov : Value} {out : List Nat} {e : Nat}
theorem Kept.new {e e' B : Nat} {S : List Nat} {a w w' : World} (h : Kept e B S a w) (k : Kept e' a.heap.size [] w w') : Kept e B S a w' :=
  ⟨k.os.trans h.os, k.tape.trans h.tape, k.output.trans h.output, Nat.le_trans h.size k.size, fun i o hi ho hc => k.block i o (by simp) (h.block i o hi ho hc) (Or.inl (lt_of_block ho))⟩
theorem ownI_kept {w' : World} {B' n : Nat} {v : Value} {xs : List Value} (h : w.ownsRow B' 3 1 v n xs) (r : RIn B b S most w p ov out e) (k : Kept 5 B [b] w w') : w'.ownsRow B' 3 1 v n xs := by
  obtain ⟨h1, h2⟩ := h
  refine ⟨h1, ?_⟩
  rcases h2 with h2 | ⟨g, c, cur, e1, e2, hh, hc⟩
  · exact Or.inl h2
  · refine Or.inr ⟨g, c, cur, e1, e2, k.block g _ ?_ hh (Or.inr (by intro c fz e; simp at e)), hc⟩
    intro hg
    obtain ⟨c', fz, h3⟩ := r.isIn g hg
    rw [h3] at hh
    simp at hh
/-- Where the reading of the lengths stands. -/
def LSt (S : ByteArray) (cs ss : List Nat) (n : Nat) (res : Option (List Bool × List Nat)) (q : Nat) (L : List Nat) (e : Nat) : Prop :=
  (e = 0 ∧ q ≤ 8 * S.size ∧ Fo.lensDec cs ss n (rest4 S q) L = res) ∨ (e = 5 ∧ res = none)
/-- What has come of it. -/
def LRes (S : ByteArray) (res : Option (List Bool × List Nat)) (q : Nat) (L : List Nat) (e : Nat) : Prop := match res with
  | some (r, l) => e = 0 ∧ L = l ∧ rest4 S q = r ∧ q ≤ 8 * S.size
  | none => e = 5
section
variable {cs ss : List Nat} {n q s q1 e1 : Nat} {L : List Nat} {res : Option (List Bool × List Nat)}
theorem ls_lit (hq : q ≤ 8 * S.size) (hl : L.length < n) (hr : Fo.lensDec cs ss n (rest4 S q) L = res) (h : SymAny cs ss S q 0 s q1 e1) (c : s < 16) : LSt S cs ss n res q1 (L ++ [s]) e1 := by
  rcases h with ⟨h0, _⟩ | ⟨_, r', hs, rfl, rfl, hq1⟩ | ⟨_, hs, rfl⟩
  · exact absurd rfl h0
  · refine Or.inl ⟨rfl, hq1, ?_⟩
    rw [← hr]
    refine (Fo.lensDec_more hl ?_).symm
    unfold Fo.lensStep; rw [hs]; simp only [if_pos c]
  · refine Or.inr ⟨rfl, ?_⟩
    rw [← hr]
    refine Fo.lensDec_bad hl ?_
    unfold Fo.lensStep; rw [hs]
theorem ls_none (hl : L.length < n) (hr : Fo.lensDec cs ss n (rest4 S q) L = res) (h : SymAny cs ss S q 0 s q1 e1) (c : s = 16) (h0 : L.length = 0) : res = none ∧ rno 5 e1 = 5 := by
  rcases h with ⟨h0, _⟩ | ⟨_, r', hs, rfl, rfl, hq1⟩ | ⟨_, hs, rfl⟩
  · exact absurd rfl h0
  · refine ⟨?_, rno_zero 5⟩
    rw [← hr]
    refine Fo.lensDec_bad hl ?_
    unfold Fo.lensStep; rw [hs]; simp only [if_neg (show ¬ s < 16 by omega), if_pos (And.intro c h0)]
  · refine ⟨?_, rno_err (by omega)⟩
    rw [← hr]
    refine Fo.lensDec_bad hl ?_
    unfold Fo.lensStep; rw [hs]
theorem ls_run {k v q2 e2 : Nat} {M : List Nat} (hl : L.length < n) (hr : Fo.lensDec cs ss n (rest4 S q) L = res) (h : SymAny cs ss S q 0 s q1 e1) (hb : BitRes S k q1 e1 v q2 e2)
    (hstep : ∀ r1, Fo.sym cs ss (rest4 S q) = some (s, r1) → v = Fo.val (r1.take k) → Fo.lensStep cs ss (rest4 S q) L = if k ≤ r1.length then some (r1.drop k, M) else none)
    (hstep0 : ∀ r1, Fo.sym cs ss (rest4 S q) = some (s, r1) → r1.length < k → Fo.lensStep cs ss (rest4 S q) L = none) : LSt S cs ss n res q2 M e2 := by
  rcases h with ⟨h0, _⟩ | ⟨_, r', hs, rfl, rfl, hq1⟩ | ⟨_, hs, rfl⟩
  · exact absurd rfl h0
  · rcases hb with ⟨h0, _⟩ | ⟨_, hk, hv, rfl, rfl⟩ | ⟨_, hk, _, rfl, rfl⟩
    · exact absurd rfl h0
    · refine Or.inl ⟨rfl, hk, ?_⟩
      rw [← hr]
      refine (Fo.lensDec_more hl ?_).symm
      rw [hstep _ hs hv, if_pos (by rw [rest4_len]; omega), rest4_drop]
    · refine Or.inr ⟨rfl, ?_⟩
      rw [← hr]
      exact Fo.lensDec_bad hl (hstep0 _ hs (by rw [rest4_len]; omega))
  · rcases hb with ⟨_, _, rfl, rfl⟩ | ⟨h0, _⟩ | ⟨h0, _⟩
    · refine Or.inr ⟨rfl, ?_⟩
      rw [← hr]
      refine Fo.lensDec_bad hl ?_
      unfold Fo.lensStep; rw [hs]
    · omega
    · omega
theorem ls_16 {v q2 e2 : Nat} (hl : L.length < n) (hr : Fo.lensDec cs ss n (rest4 S q) L = res) (h : SymAny cs ss S q 0 s q1 e1) (hb : BitRes S 2 q1 e1 v q2 e2) (c : s = 16) (h0 : 0 < L.length) : LSt S cs ss n res q2 (L ++ List.replicate (3 + v) (nth L (L.length - 1))) e2 := by
  have c1 : ¬ s < 16 := by omega
  have c2 : ¬ (s = 16 ∧ L.length = 0) := by omega
  refine ls_run hl hr h hb (fun r1 hs hv => ?_) (fun r1 hs hk => ?_)
  · unfold Fo.lensStep; rw [hs, hv]; simp only [if_neg c1, if_neg c2, if_pos c]
  · unfold Fo.lensStep; rw [hs]; simp only [if_neg c1, if_neg c2, if_pos c, if_neg (Nat.not_le.2 hk)]
theorem ls_17 {v q2 e2 : Nat} (hl : L.length < n) (hr : Fo.lensDec cs ss n (rest4 S q) L = res) (h : SymAny cs ss S q 0 s q1 e1) (hb : BitRes S 3 q1 e1 v q2 e2) (c : s = 17) : LSt S cs ss n res q2 (L ++ List.replicate (3 + v) 0) e2 := by
  have c1 : ¬ s < 16 := by omega
  have c2 : ¬ (s = 16 ∧ L.length = 0) := by omega
  have c3 : ¬ s = 16 := by omega
  refine ls_run hl hr h hb (fun r1 hs hv => ?_) (fun r1 hs hk => ?_)
  · unfold Fo.lensStep; rw [hs, hv]; simp only [if_neg c1, if_neg c2, if_neg c3, if_pos c]
  · unfold Fo.lensStep; rw [hs]; simp only [if_neg c1, if_neg c2, if_neg c3, if_pos c, if_neg (Nat.not_le.2 hk)]
theorem ls_18 {v q2 e2 : Nat} (hl : L.length < n) (hr : Fo.lensDec cs ss n (rest4 S q) L = res) (h : SymAny cs ss S q 0 s q1 e1) (hb : BitRes S 7 q1 e1 v q2 e2) (c : 17 < s) : LSt S cs ss n res q2 (L ++ List.replicate (11 + v) 0) e2 := by
  have c1 : ¬ s < 16 := by omega
  have c2 : ¬ (s = 16 ∧ L.length = 0) := by omega
  have c3 : ¬ s = 16 := by omega
  have c4 : ¬ s = 17 := by omega
  refine ls_run hl hr h hb (fun r1 hs hv => ?_) (fun r1 hs hk => ?_)
  · unfold Fo.lensStep; rw [hs, hv]; simp only [if_neg c1, if_neg c2, if_neg c3, if_neg c4]
  · unfold Fo.lensStep; rw [hs]; simp only [if_neg c1, if_neg c2, if_neg c3, if_neg c4, if_neg (Nat.not_le.2 hk)]
theorem ls_measure {k v q2 e2 : Nat} (hq : q ≤ 8 * S.size) (h : SymAny cs ss S q 0 s q1 e1) (hb : (q2 = q1 ∧ e2 = e1) ∨ BitRes S k q1 e1 v q2 e2) : (if e2 = 0 then 8 * S.size + 1 - q2 else 0) < 8 * S.size + 1 - q := by
  rcases h with ⟨h0, _⟩ | ⟨_, r', hs, rfl, rfl, hq1⟩ | ⟨_, hs, rfl⟩
  · exact absurd rfl h0
  · have hsh : q < q1 := by
      have := Fo.sym_shorter hs
      rw [rest4_len, rest4_len] at this
      omega
    rcases hb with ⟨rfl, rfl⟩ | ⟨h0, _⟩ | ⟨_, hk, hv, rfl, rfl⟩ | ⟨_, hk, _, rfl, rfl⟩
    · simp; omega
    · exact absurd rfl h0
    · simp; omega
    · simp; omega
  · rcases hb with ⟨rfl, rfl⟩ | ⟨_, _, rfl, rfl⟩ | ⟨h0, _⟩ | ⟨h0, _⟩
    · simp; omega
    · simp; omega
    · omega
    · omega
end
end Go.Proofs.YtgkljcmjnphpeaaGreatDoor
namespace Go.Proofs.YtgkljcmjnphpeaaGreatDoor
open Go.RowKit
variable {B b : Nat} {S : ByteArray} {most : Nat} {w : World} {p : Nat} {ov : Value} {out : List Nat} {e : Nat}
set_option maxRecDepth 100000 in
set_option maxHeartbeats 2000000 in
theorem rlengths_ok (h : RIn B b S most w p ov out 0) (hp : p ≤ 8 * S.size) {bt M n : Nat} (hM : M ≤ 1000) (hn : n ≤ 400) {cs ss : List Nat} (hT : TreeOk w bt cs ss M) (hcs : ∀ r s r', Fo.sym cs ss r = some (s, r') → s ≤ 1000)
    {res : Option (List Bool × List Nat)} (hres : Fo.lensDec cs ss n (rest4 S p) [] = res) :
    Calls Tryz.prog 210 #[.pointer (some ⟨b, 0, none⟩), .pointer (some ⟨bt, 0, none⟩), .int .i64 n] w fun x w' => ∃ v L q e, x = .returned v ∧ RIn B b S most w' q ov out e ∧ LRes S res q L e ∧ (e = 0 → w'.ownsRow w.heap.size 3 1 v L.length (ints L)) ∧ TreeOk w' bt cs ss M ∧ Kept 5 B [b] w w' := by
  obtain ⟨i0, hi, hz0, hz1, hz2⟩ := info_parts Tryz.infoInt
  have HCS := hide hcs
  have HST : Hid (LSt S cs ss n res p [] 0) := Or.inl ⟨rfl, hp, hres⟩
  clear hcs hres
  go_enter Tryz.func210, Tryz.ntmps210
  go_wp2
  go_loopw [7] (fun vl wr => ∃ (q : Nat) (L : List Nat) (e : Nat), L.length ≤ 1000 ∧ RIn B b S most wr q ov out e ∧ wr.ownsRow w.heap.size 3 1 vl L.length (ints L) ∧ Hid (LSt S cs ss n res q L e) ∧ TreeOk wr bt cs ss M ∧ Kept 5 B [b] w wr) (fun _ wr => if errOf b wr = 0 then 8 * S.size + 1 - posOf b wr else 0)
  case atStart => exact ⟨p, [], 0, by simp, h, World.ownsRow_nil _ _ _ _, HST, hT, Kept.refl _ _ _ _⟩
  clear h hT HST
  case round =>
    obtain ⟨q, L, e, hL, r, ow, HST, hT, kk⟩ := hrel
    have hsz := kk.size
    have mr := hide r.posOf
    have me := hide r.errOf
    have c4 := r.c4
    obtain ⟨a0, c0, rfl⟩ := own_slice ow
    rcases HST.out with ⟨rfl, hq, hP⟩ | ⟨rfl, hR⟩
    · have HP := hide hP
      clear hP HST
      by_cases cn : L.length < n
      · have cn' : (L.length : Int) < n := by omega
        have HS1 := hide (rsymbol_any r (fun _ => hq) hT hM)
        have HTK : Hid (∀ w', Kept 5 B [b] wr w' → TreeOk w' bt cs ss M ∧ w'.ownsRow w.heap.size 3 1 (.slice a0 L.length c0) L.length (ints L)) := fun w' k => ⟨hT.kept k r, ownI_kept ow r k⟩
        have HK0 := hide kk
        clear hT ow kk r
        go_wp2_with fail
        refine HS1.out.mono ?_
        rintro x w1 ⟨s, q1, e1, rfl, r1, HSY, hv1, k1⟩
        have hs1000 : s ≤ 1000 := by
          rcases hv1 with h | h
          · omega
          · obtain ⟨r', hr'⟩ := h.out
            exact HCS.out _ _ _ hr'
        have OT1 := hide (HTK.out w1 k1)
        have K1 := hide (HK0.out.trans k1)
        have R1 := hide r1
        have hz1' : w.heap.size ≤ w1.heap.size := K1.out.size
        clear hv1 HS1 HTK HK0 k1 r1
        by_cases c1 : s < 16
        · have c1' : (s : Int) < 16 := by omega
          go_wp2_with (at_builtin; refine wpList_append_own _ rfl (.tmp 35) (.tmp 37) 52 rfl w.heap.size 3 i0 (.int .i64 0) 1 8 Tryz.underlying52 hi hz0 hz1 hz2 rfl (by decide) (.slice a0 L.length c0) L.length _ rfl (OT1.out.2.alloc _) ⟨w1.heap.size, 0, none⟩ 1 1 [.int .i64 (s : Int)] rfl rfl ?hnews ?hone ?h63 ?hby ?hbs ?_)
          case hnews => exact newsI1
          case hone => intro u hu; simp at hu; subst hu; rfl
          case h63 => unfold maxLen; omega
          case hby => omega
          case hbs => simp; omega
          intro v2 w2 own2 hg2 _
          have KI := hide ((((Kept.refl 3 w.heap.size [] w1).alloc _).grown hg2 (own_row (OT1.out.2.alloc _))))
          have hex : ints L ++ [.int .i64 (s : Int)] = ints (L ++ [s]) := by simp [ints]
          rw [hex] at own2
          have O2 := hide own2
          obtain ⟨a2, c2, hv2⟩ := own_slice own2
          subst hv2
          have R2 := hide (R1.out.keptI KI.out)
          have m2 := hide R2.out.errOf
          have m3 := hide R2.out.posOf
          have hL2 : (L ++ [s]).length = L.length + 1 := by simp
          clear own2 hg2 hex
          go_wp2
          go_roundw
          case rel => exact ⟨q1, L ++ [s], e1, by omega, R2.out, by rw [hL2]; exact O2.out, ls_lit hq cn HP.out HSY.out c1, OT1.out.1.keptI KI.out, Kept.new K1.out KI.out⟩
          case measure => rw [mr.out, me.out, m2.out, m3.out]; exact ls_measure (k := 0) (v := 0) hq HSY.out (Or.inl ⟨rfl, rfl⟩)
        · have c1' : ¬ (s : Int) < 16 := by omega
          by_cases c2 : s = 16
          · subst c2
            by_cases c3 : L.length = 0
            · have c3' : ((L.length : Int) == 0) = true := by simp; exact List.length_eq_zero_iff.1 c3
              obtain ⟨hR, h5⟩ := ls_none cn HP.out HSY.out rfl c3
              clear c3
              go_wp2_with fail
              refine (rno_ok R1.out 5 (by omega)).mono ?_
              rintro x w2 ⟨rfl, r2, k2⟩
              rw [h5] at r2
              have m2 := hide r2.errOf
              go_wp2
              go_roundw
              case rel => exact ⟨_, L, 5, hL, r2, ownI_kept OT1.out.2 R1.out k2, Or.inr ⟨rfl, hR⟩, OT1.out.1.kept k2 R1.out, K1.out.trans k2⟩
              case measure => rw [mr.out, me.out, m2.out]; simp; omega
            · have c3' : ((L.length : Int) == 0) = false := by simp; intro h; rw [h] at c3; exact c3 rfl
              have h0 : 0 < L.length := by omega
              obtain ⟨g, oc, hov, _⟩ := own_form OT1.out.2 h0
              simp only [Value.slice.injEq, true_and] at hov
              obtain ⟨rfl, rfl⟩ := hov
              go_wp2_with fail
              refine (rbits_any R1.out 2 (by omega)).mono ?_
              rintro x w2 ⟨v, q2, e2, rfl, r2, B2, hv2, k2⟩
              have hv4 : v < 4 := by simpa using hv2
              have O2 := hide (ownI_kept OT1.out.2 R1.out k2)
              have T2 := hide (OT1.out.1.kept k2 R1.out)
              have K2 := hide (K1.out.trans k2)
              have R2 := hide r2
              have z2 : w.heap.size ≤ w2.heap.size := K2.out.size
              obtain ⟨D, hD⟩ : ∃ D, L.length - 1 = D := ⟨_, rfl⟩
              have hDl : D < L.length := by omega
              have hx := O2.out.cellAt D (by omega)
              have hX : (ints L)[D]? = some (.int .i64 (nth L D : Nat)) := by simp [ints, nth, hDl]
              rw [hX] at hx
              have HLS := hide (ls_16 cn HP.out HSY.out B2.out rfl h0)
              have HMS := hide (ls_measure hq HSY.out (Or.inr B2.out))
              rw [hD] at HLS
              have hjw : IntKind.i64.wrap ((L.length : Int) - 1) = (D : Int) := by rw [IntKind.wrap_i64]; omega
              have hj0 : (0 : Int) ≤ (D : Int) := by omega
              have hj1 : (D : Int) < (L.length : Int) := by omega
              generalize nth L D = X at *
              have ev : IntKind.i64.wrap (3 + (v : Int)) = ((3 + v : Nat) : Int) := by rw [IntKind.wrap_i64]; omega
              have HRP := hide (repeat_ok (.slice (some ⟨g, 0, none⟩) L.length c0) L O2.out z2 (3 + v) X (by omega) (by omega))
              rw [show ((3 + v : Nat) : Int) = 3 + (v : Int) by omega] at HRP
              clear OT1 R1 K1 r2 k2 hv2 hX hD
              go_wp2_with fail
              refine HRP.out.mono ?_
              rintro x w3 ⟨v3, rfl, o3, KI⟩
              have R3 := hide (R2.out.keptI KI)
              have m2 := hide R3.out.errOf
              have m3 := hide R3.out.posOf
              obtain ⟨a3, c3, hv3⟩ := own_slice o3
              subst hv3
              go_wp2
              go_roundw
              case rel => exact ⟨q2, _, e2, by simp only [List.length_append, List.length_replicate]; omega, R3.out, by rw [List.length_append, List.length_replicate]; exact o3, HLS.out, T2.out.keptI KI, Kept.new K2.out KI⟩
              case measure => rw [mr.out, me.out, m2.out, m3.out]; exact HMS.out
          · have c2' : ((s : Int) == 16) = false := by simp; omega
            by_cases c3 : s = 17
            · subst c3
              go_wp2_with fail
              refine (rbits_any R1.out 3 (by omega)).mono ?_
              rintro x w2 ⟨v, q2, e2, rfl, r2, B2, hv2, k2⟩
              have hv4 : v < 8 := by simpa using hv2
              have O2 := hide (ownI_kept OT1.out.2 R1.out k2)
              have T2 := hide (OT1.out.1.kept k2 R1.out)
              have K2 := hide (K1.out.trans k2)
              have R2 := hide r2
              have z2 : w.heap.size ≤ w2.heap.size := K2.out.size
              have HLS := hide (ls_17 cn HP.out HSY.out B2.out rfl)
              have HMS := hide (ls_measure hq HSY.out (Or.inr B2.out))
              have HRP := hide (repeat_ok (.slice a0 L.length c0) L O2.out z2 (3 + v) 0 (by omega) (by omega))
              rw [show ((3 + v : Nat) : Int) = 3 + (v : Int) by omega] at HRP
              clear OT1 R1 K1 r2 k2 hv2
              go_wp2_with fail
              refine HRP.out.mono ?_
              rintro x w3 ⟨v3, rfl, o3, KI⟩
              have R3 := hide (R2.out.keptI KI)
              have m2 := hide R3.out.errOf
              have m3 := hide R3.out.posOf
              obtain ⟨a3, c3, hv3⟩ := own_slice o3
              subst hv3
              go_wp2
              go_roundw
              case rel => exact ⟨q2, _, e2, by simp only [List.length_append, List.length_replicate]; omega, R3.out, by rw [List.length_append, List.length_replicate]; exact o3, HLS.out, T2.out.keptI KI, Kept.new K2.out KI⟩
              case measure => rw [mr.out, me.out, m2.out, m3.out]; exact HMS.out
            · have c3' : ((s : Int) == 17) = false := by simp; omega
              go_wp2_with fail
              refine (rbits_any R1.out 7 (by omega)).mono ?_
              rintro x w2 ⟨v, q2, e2, rfl, r2, B2, hv2, k2⟩
              have hv4 : v < 128 := by simpa using hv2
              have O2 := hide (ownI_kept OT1.out.2 R1.out k2)
              have T2 := hide (OT1.out.1.kept k2 R1.out)
              have K2 := hide (K1.out.trans k2)
              have R2 := hide r2
              have z2 : w.heap.size ≤ w2.heap.size := K2.out.size
              have HLS := hide (ls_18 cn HP.out HSY.out B2.out (by omega))
              have HMS := hide (ls_measure hq HSY.out (Or.inr B2.out))
              have HRP := hide (repeat_ok (.slice a0 L.length c0) L O2.out z2 (11 + v) 0 (by omega) (by omega))
              rw [show ((11 + v : Nat) : Int) = 11 + (v : Int) by omega] at HRP
              clear OT1 R1 K1 r2 k2 hv2
              go_wp2_with fail
              refine HRP.out.mono ?_
              rintro x w3 ⟨v3, rfl, o3, KI⟩
              have R3 := hide (R2.out.keptI KI)
              have m2 := hide R3.out.errOf
              have m3 := hide R3.out.posOf
              obtain ⟨a3, c3, hv3⟩ := own_slice o3
              subst hv3
              go_wp2
              go_roundw
              case rel => exact ⟨q2, _, e2, by simp only [List.length_append, List.length_replicate]; omega, R3.out, by rw [List.length_append, List.length_replicate]; exact o3, HLS.out, T2.out.keptI KI, Kept.new K2.out KI⟩
              case measure => rw [mr.out, me.out, m2.out, m3.out]; exact HMS.out
      · have cn' : ¬ (L.length : Int) < n := by omega
        by_cases ce : L.length = n
        · have ce' : ((L.length : Int) != n) = false := by simp; omega
          have CE := hide ce
          clear ce
          go_wp2
          go_ret
          refine ⟨_, rfl, L, q, 0, r, ?_, fun _ => ow, hT, kk⟩
          have h1 := HP.out
          rw [Fo.lensDec_end (by omega), if_pos CE.out] at h1
          rw [← h1]; exact ⟨rfl, rfl, rfl, hq⟩
        · have ce' : ((L.length : Int) != n) = true := by simp; omega
          have HNO := hide (rno_ok r 5 (by omega))
          have HTK : Hid (∀ w', Kept 5 B [b] wr w' → TreeOk w' bt cs ss M) := fun w' k => hT.kept k r
          clear hT r
          go_wp2_with fail
          refine HNO.out.mono ?_
          rintro x w2 ⟨rfl, r2, k2⟩
          rw [rno_zero] at r2
          go_wp2
          go_ret
          refine ⟨_, L, q, 5, rfl, r2, ?_, fun h => absurd h (by omega), HTK.out _ k2, kk.trans k2⟩
          have h1 := HP.out
          rw [Fo.lensDec_end (by omega), if_neg ce] at h1
          rw [← h1]; rfl
    · have he5 : ((5 : Int) == 0) = false := by decide
      subst hR
      by_cases ce : L.length = n
      · have ce' : ((L.length : Int) != n) = false := by simp; omega
        have cn' : ¬ (L.length : Int) < n := by omega
        clear ce
        go_wp2
        go_ret
        exact ⟨_, rfl, L, q, 5, r, rfl, fun h => absurd h (by omega), hT, kk⟩
      · have ce' : ((L.length : Int) != n) = true := by simp; omega
        have HNO := hide (rno_ok r 5 (by omega))
        have HTK : Hid (∀ w', Kept 5 B [b] wr w' → TreeOk w' bt cs ss M) := fun w' k => hT.kept k r
        clear hT r
        by_cases cn : L.length < n
        · have cn' : (L.length : Int) < n := by omega
          go_wp2_with fail
          refine HNO.out.mono ?_
          rintro x w2 ⟨rfl, r2, k2⟩
          rw [rno_err (by omega)] at r2
          go_wp2
          go_ret
          exact ⟨_, L, q, 5, rfl, r2, rfl, fun h => absurd h (by omega), HTK.out _ k2, kk.trans k2⟩
        · have cn' : ¬ (L.length : Int) < n := by omega
          go_wp2_with fail
          refine HNO.out.mono ?_
          rintro x w2 ⟨rfl, r2, k2⟩
          rw [rno_err (by omega)] at r2
          go_wp2
          go_ret
          exact ⟨_, L, q, 5, rfl, r2, rfl, fun h => absurd h (by omega), HTK.out _ k2, kk.trans k2⟩
end Go.Proofs.YtgkljcmjnphpeaaGreatDoor
namespace Go.Proofs.YtgkljcmjnphpeaaGreatDoor
open Go.RowKit
variable {B b : Nat} {S : ByteArray} {most : Nat} {w : World} {p : Nat} {ov : Value} {out : List Nat} {e : Nat}
set_option maxRecDepth 100000 in
set_option maxHeartbeats 2000000 in
theorem rlengths_err (h : RIn B b S most w p ov out e) (he : e ≠ 0) {bt n : Nat} (hn : n ≤ 400) (hn0 : 0 < n) :
    Calls Tryz.prog 210 #[.pointer (some ⟨b, 0, none⟩), .pointer (some ⟨bt, 0, none⟩), .int .i64 n] w fun x w' => ∃ v, x = .returned v ∧ RIn B b S most w' p ov out e ∧ Kept 5 B [b] w w' := by
  have c4 := h.c4
  have hn' : (0 : Int) < n := by omega
  have hnn : ((0 : Int) != n) = true := by simp; omega
  have he' : ((e : Int) == 0) = false := by simp; omega
  have HE := hide he
  clear he
  go_enter Tryz.func210, Tryz.ntmps210
  go_wp2
  go_loopw [7] (fun vl wr => vl = .slice none 0 0 ∧ RIn B b S most wr p ov out e ∧ Kept 5 B [b] w wr) (fun _ _ => 0)
  case atStart => exact ⟨rfl, h, Kept.refl _ _ _ _⟩
  clear h c4
  case round =>
    obtain ⟨rfl, r, kk⟩ := hrel
    have c4 := r.c4
    have HNO := hide (rno_ok r 5 (by omega))
    clear r
    go_wp2_with fail
    refine HNO.out.mono ?_
    rintro x w2 ⟨rfl, r2, k2⟩
    rw [rno_err HE.out] at r2
    go_wp2
    go_ret
    exact ⟨_, rfl, r2, kk.trans k2⟩
set_option maxRecDepth 100000 in
set_option maxHeartbeats 2000000 in
theorem rsymbols_err (h : RIn B b S most w p ov out e) (he : e ≠ 0) {window b1 b2 : Nat} :
    Calls Tryz.prog 209 #[.pointer (some ⟨b, 0, none⟩), .pointer (some ⟨b1, 0, none⟩), .pointer (some ⟨b2, 0, none⟩), .int .i64 window] w fun x w' => x = .returned (.tuple #[]) ∧ RIn B b S most w' p ov out e ∧ Kept 5 B [b] w w' := by
  have he' : ((e : Int) == 0) = false := by simp; omega
  have HE := hide he
  clear he
  go_enter Tryz.func209, Tryz.ntmps209
  go_wp2
  go_loopw [8] (fun _ wr => RIn B b S most wr p ov out e ∧ Kept 5 B [b] w wr) (fun _ _ => 0)
  case atStart => exact ⟨h, Kept.refl _ _ _ _⟩
  clear h
  case round =>
    obtain ⟨r, kk⟩ := hrel
    have c4 := r.c4
    go_wp2
    go_end0
    exact ⟨rfl, r, kk⟩
end Go.Proofs.YtgkljcmjnphpeaaGreatDoor
namespace Go.Proofs.YtgkljcmjnphpeaaGreatDoor.Fo
/-- The order of the lengths' lengths. -/
def ordl : List Nat := [16, 17, 18, 0, 8, 7, 9, 6, 10, 5, 11, 4, 12, 3, 13, 2, 14, 1, 15]
/-- The first i lengths' lengths. -/
def clens (r : List Bool) : Nat → List Nat
  | 0 => List.replicate 19 0
  | i + 1 => (clens r i).set (nth ordl i) (val ((r.drop (3 * i)).take 3))
def fullOf (l : List Nat) : Nat := kr (fun k => l.count k) 15
def headA (r : List Bool) : Nat := 257 + val (r.take 5)
def headB (r : List Bool) : Nat := 1 + val ((r.drop 5).take 5)
def headC (r : List Bool) : Nat := 4 + val ((r.drop 10).take 4)
/-- Own codes: their lengths. -/
def ownHead (r : List Bool) : Option (List Bool × List Nat) :=
  if r.length < 14 then none
  else if 286 < headA r ∨ 30 < headB r then none
  else if r.length < 14 + 3 * headC r then none
  else if fullOf (clens (r.drop 14) (headC r)) ≠ 32768 then none
  else lensDec (cz (clens (r.drop 14) (headC r))) (ssOf (clens (r.drop 14) (headC r))) (headA r + headB r) (r.drop (14 + 3 * headC r)) []
/-- Own codes: may they stand. -/
def ownGood (L : List Nat) (a : Nat) : Prop := fullOf (L.take a) = 32768 ∧ nth L 256 ≠ 0 ∧ (fullOf (L.drop a) = 32768 ∨ fullOf (L.drop a) = 0 ∨ (fullOf (L.drop a) = 16384 ∧ ∀ x ∈ L.drop a, x < 2))
theorem lensStep_small {cs ss : List Nat} {r r' : List Bool} {L L' : List Nat} (h : lensStep cs ss r L = some (r', L')) (hL : ∀ x ∈ L, x < 16) : ∀ x ∈ L', x < 16 := by
  have hlast : nth L (L.length - 1) < 16 := by
    unfold nth
    rw [List.getD_eq_getElem?_getD]
    by_cases hl : L.length - 1 < L.length
    · rw [List.getElem?_eq_getElem hl]; exact hL _ (List.getElem_mem hl)
    · rw [List.getElem?_eq_none (by omega)]; decide
  unfold lensStep at h
  cases hs : sym cs ss r with
  | none => rw [hs] at h; cases h
  | some x =>
    obtain ⟨s, r1⟩ := x
    rw [hs] at h
    simp only [] at h
    split at h
    · cases h
      intro x hx
      rcases List.mem_append.1 hx with hx | hx
      · exact hL x hx
      · simp at hx; omega
    split at h
    · cases h
    have fin : ∀ (k y : Nat), y < 16 → ∀ x ∈ L ++ List.replicate k y, x < 16 := fun k y hy x hx => by
      rcases List.mem_append.1 hx with hx | hx
      · exact hL x hx
      · rw [List.eq_of_mem_replicate hx]; exact hy
    split at h
    · split at h
      · cases h; exact fin _ _ hlast
      · cases h
    split at h
    · split at h
      · cases h; exact fin _ _ (by decide)
      · cases h
    split at h
    · cases h; exact fin _ _ (by decide)
    · cases h
theorem lensGo_small (cs ss : List Nat) (n : Nat) : ∀ k r L r' L', (∀ x ∈ L, x < 16) → lensGo cs ss n k r L = some (r', L') → L'.length = n ∧ ∀ x ∈ L', x < 16
  | 0, _, _, _, _, _, h => by simp [lensGo] at h
  | k + 1, r, L, r', L', hL, h => by
    simp only [lensGo] at h
    split at h
    · split at h
      · rename_i h1; cases h; exact ⟨h1, hL⟩
      · cases h
    · split at h
      · cases h
      · rename_i hs
        exact lensGo_small cs ss n k _ _ r' L' (lensStep_small hs hL) h
theorem lensDec_small {cs ss : List Nat} {n : Nat} {r r' : List Bool} {L' : List Nat} (h : lensDec cs ss n r [] = some (r', L')) : L'.length = n ∧ ∀ x ∈ L', x < 16 :=
  lensGo_small cs ss n _ r [] r' L' (by simp) h
end Go.Proofs.YtgkljcmjnphpeaaGreatDoor.Fo
namespace Go.Proofs.YtgkljcmjnphpeaaGreatDoor
open Go.RowKit
variable {S : ByteArray} {p : Nat}
/-- Behind the three numbers. -/
def OwnA (S : ByteArray) (p va vb vc q e : Nat) : Prop :=
  (e = 0 ∧ 257 + va = Fo.headA (rest4 S p) ∧ 1 + vb = Fo.headB (rest4 S p) ∧ 4 + vc = Fo.headC (rest4 S p) ∧ q = p + 14 ∧ q ≤ 8 * S.size ∧ 257 + va ≤ 286 ∧ 1 + vb ≤ 30) ∨ (e = 5 ∧ Fo.ownHead (rest4 S p) = none)
theorem ownA_of {va vb vc q1 e1 q2 e2 q3 e3 e4 : Nat} (h1 : BitRes S 5 p 0 va q1 e1) (h2 : BitRes S 5 q1 e1 vb q2 e2) (h3 : BitRes S 4 q2 e2 vc q3 e3) (h4 : e4 = if 286 < 257 + va ∨ 30 < 1 + vb then rno 5 e3 else e3) : OwnA S p va vb vc q3 e4 := by
  have bad : e3 = 5 → (rest4 S p).length < 14 → OwnA S p va vb vc q3 e4 := fun h5 hl => by
    subst h5
    refine Or.inr ⟨?_, ?_⟩
    · rw [h4]; split
      · exact rno_err (by omega)
      · rfl
    · unfold Fo.ownHead; rw [if_pos hl]
  rcases h1 with ⟨h0, _⟩ | ⟨_, k1, v1, rfl, rfl⟩ | ⟨_, k1, _, rfl, rfl⟩
  · exact absurd rfl h0
  · rcases h2 with ⟨h0, _⟩ | ⟨_, k2, v2, rfl, rfl⟩ | ⟨_, k2, _, rfl, rfl⟩
    · exact absurd rfl h0
    · rcases h3 with ⟨h0, _⟩ | ⟨_, k3, v3, rfl, rfl⟩ | ⟨_, k3, _, rfl, rfl⟩
      · exact absurd rfl h0
      · have eA : 257 + va = Fo.headA (rest4 S p) := by unfold Fo.headA; rw [v1]
        have eB : 1 + vb = Fo.headB (rest4 S p) := by unfold Fo.headB; rw [v2, rest4_drop]
        have eC : 4 + vc = Fo.headC (rest4 S p) := by unfold Fo.headC; rw [v3, rest4_drop]
        by_cases c : 286 < 257 + va ∨ 30 < 1 + vb
        · rw [if_pos c, rno_zero] at h4
          refine Or.inr ⟨h4, ?_⟩
          unfold Fo.ownHead
          rw [← eA, ← eB, if_neg (by rw [rest4_len]; omega), if_pos c]
        · rw [if_neg c] at h4
          exact Or.inl ⟨h4, eA, eB, eC, by omega, by omega, by omega, by omega⟩
      · exact bad rfl (by rw [rest4_len]; omega)
    · rcases h3 with ⟨_, _, rfl, rfl⟩ | ⟨h0, _⟩ | ⟨h0, _⟩
      · exact bad rfl (by rw [rest4_len]; omega)
      · omega
      · omega
  · rcases h2 with ⟨_, _, rfl, rfl⟩ | ⟨h0, _⟩ | ⟨h0, _⟩
    · rcases h3 with ⟨_, _, rfl, rfl⟩ | ⟨h0, _⟩ | ⟨h0, _⟩
      · exact bad rfl (by rw [rest4_len]; omega)
      · omega
      · omega
    · omega
    · omega
/-- While the lengths' lengths are read. -/
def OwnB (S : ByteArray) (p va vb c i : Nat) (l : List Nat) (q e : Nat) : Prop :=
  (e = 0 ∧ 257 + va = Fo.headA (rest4 S p) ∧ 1 + vb = Fo.headB (rest4 S p) ∧ c = Fo.headC (rest4 S p) ∧ q = p + 14 + 3 * i ∧ q ≤ 8 * S.size ∧ 257 + va ≤ 286 ∧ 1 + vb ≤ 30 ∧ l = Fo.clens (rest4 S (p + 14)) i) ∨ (e = 5 ∧ Fo.ownHead (rest4 S p) = none)
theorem OwnA.toB {va vb vc q e : Nat} (h : OwnA S p va vb vc q e) : OwnB S p va vb (4 + vc) 0 (List.replicate 19 0) q e := by
  rcases h with ⟨h1, h2, h3, h4, h5, h6, h7, h8⟩ | h
  · exact Or.inl ⟨h1, h2, h3, h4, by omega, h6, h7, h8, rfl⟩
  · exact Or.inr h
theorem OwnB.step {va vb c i q e v q' e' : Nat} {l : List Nat} (h : OwnB S p va vb c i l q e) (hi : i < c) (hb : BitRes S 3 q e v q' e') : OwnB S p va vb c (i + 1) (l.set (nth Fo.ordl i) v) q' e' := by
  rcases h with ⟨rfl, h2, h3, h4, h5, h6, h7, h8, h9⟩ | ⟨rfl, h2⟩
  · rcases hb with ⟨h0, _⟩ | ⟨_, k1, v1, rfl, rfl⟩ | ⟨_, k1, _, rfl, rfl⟩
    · exact absurd rfl h0
    · refine Or.inl ⟨rfl, h2, h3, h4, by omega, k1, h7, h8, ?_⟩
      rw [h9, v1, h5]
      simp only [Fo.clens, rest4_drop]
    · refine Or.inr ⟨rfl, ?_⟩
      unfold Fo.ownHead
      split
      · rfl
      split
      · rfl
      rw [if_pos (by rw [rest4_len]; omega)]
  · rcases hb with ⟨_, _, rfl, rfl⟩ | ⟨h0, _⟩ | ⟨h0, _⟩
    · exact Or.inr ⟨rfl, h2⟩
    · omega
    · omega
/-- Behind the lengths' code. -/
def OwnC (S : ByteArray) (p va vb : Nat) (l : List Nat) (q e : Nat) : Prop :=
  (e = 0 ∧ 257 + va = Fo.headA (rest4 S p) ∧ q ≤ 8 * S.size ∧ 257 + va ≤ 286 ∧ 1 + vb ≤ 30 ∧ Fo.fullOf l = 32768 ∧ Fo.lensDec (cz l) (Fo.ssOf l) (257 + va + (1 + vb)) (rest4 S q) [] = Fo.ownHead (rest4 S p)) ∨ (e = 5 ∧ Fo.ownHead (rest4 S p) = none)
theorem OwnB.toC {va vb c q e full e' : Nat} {l : List Nat} {T : List (Int × Int)} (h : OwnB S p va vb c c l q e) (hg : GrownTo l T full) (he : e' = if full = 32768 then e else rno 5 e) : OwnC S p va vb l q e' := by
  rcases h with ⟨rfl, h2, h3, h4, h5, h6, h7, h8, h9⟩ | ⟨rfl, h2⟩
  · have hd : (rest4 S p).drop 14 = rest4 S (p + 14) := by rw [rest4_drop]
    have hh : Fo.ownHead (rest4 S p) = if Fo.fullOf l ≠ 32768 then none else Fo.lensDec (cz l) (Fo.ssOf l) (257 + va + (1 + vb)) (rest4 S q) [] := by
      unfold Fo.ownHead
      rw [← h2, ← h3, ← h4, hd, ← h9, if_neg (by rw [rest4_len]; omega), if_neg (by omega), if_neg (by rw [rest4_len]; omega), rest4_drop, show p + (14 + 3 * c) = q by omega]
    have hf : full = 32768 ↔ Fo.fullOf l = 32768 := by
      rcases hg with ⟨g1, _⟩ | ⟨g1, g2⟩
      · rw [g1]; exact Iff.rfl
      · unfold Fo.fullOf; constructor <;> intro h <;> omega
    by_cases cf : full = 32768
    · rw [if_pos cf] at he
      have := hf.1 cf
      refine Or.inl ⟨he, h2, h6, h7, h8, this, ?_⟩
      rw [hh, if_neg (by simp [this])]
    · rw [if_neg cf, rno_zero] at he
      refine Or.inr ⟨he, ?_⟩
      rw [hh, if_pos (fun h => cf (hf.2 h))]
  · refine Or.inr ⟨?_, h2⟩
    rw [he]; split
    · rfl
    · exact rno_err (by omega)
end Go.Proofs.YtgkljcmjnphpeaaGreatDoor
