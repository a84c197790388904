/- Filter 4 read: a block, whatever it comes to. -/
import Derived.Test.YtgkljcmjnphpeaaGreatDoorK29
import Derived.Test.YtgkljcmjnphpeaaGreatDoorK06
import Derived.Test.YtgkljcmjnphpeaaGreatDoorK27
set_option linter.unusedVariables false
set_option linter.unusedSimpArgs false
namespace Go.Proofs.YtgkljcmjnphpeaaGreatDoor.Fo
/-- So many bytes of bits, as one number, the first the highest. -/
def beN (r : List Bool) : Nat → Nat
  | 0 => 0
  | j + 1 => 256 * beN r j + val ((r.drop (8 * j)).take 8)
/-- What comes of filter 4 behind its blocks. -/
def sumDec (r : List Bool) (o : List Nat) : Except Nat (List Nat) :=
  if (r.drop (r.length % 8)).length = 32 ∧ bytesAt (r.drop (r.length % 8)) 4 = sum4 o then .ok o else .error 5
/-- Filter 4: what comes of it. -/
def FlateTo (most : Nat) (r : List Bool) (res : Except Nat (List Nat)) : Prop :=
  (∃ e, OpenTo most r (.error e) ∧ res = .error e) ∨ (∃ r' o, OpenTo most r (.ok (r', o)) ∧ res = sumDec r' o)
theorem FlateTo.some (most : Nat) (r : List Bool) : ∃ res, FlateTo most r res := by
  obtain ⟨r1, h⟩ := OpenTo.some most r
  cases r1 with
  | error e => exact ⟨_, Or.inl ⟨e, h, rfl⟩⟩
  | ok x => exact ⟨_, Or.inr ⟨x.1, x.2, h, rfl⟩⟩
theorem beN_sum (r : List Bool) (o : List Nat) : beN r 4 = 65536 * (sumAB o).2 + (sumAB o).1 ↔ bytesAt r 4 = sum4 o := by
  have hs := sumAB_lt o
  have hv : ∀ k, val ((r.drop k).take 8) < 256 := fun k => by
    have hv := val_lt ((r.drop k).take 8)
    have hl : ((r.drop k).take 8).length ≤ 8 := by rw [List.length_take]; omega
    have h8 : 2 ^ ((r.drop k).take 8).length ≤ 2 ^ 8 := Nat.pow_le_pow_right (by omega) hl
    have e8 : (2 : Nat) ^ 8 = 256 := by decide
    omega
  have h0 := hv 0
  have h1 := hv 8
  have h2 := hv 16
  have h3 := hv 24
  have e : bytesAt r 4 = [val ((r.drop 0).take 8), val ((r.drop 8).take 8), val ((r.drop 16).take 8), val ((r.drop 24).take 8)] := rfl
  have e2 : beN r 4 = 256 * (256 * (256 * (256 * 0 + val ((r.drop 0).take 8)) + val ((r.drop 8).take 8)) + val ((r.drop 16).take 8)) + val ((r.drop 24).take 8) := rfl
  rw [e, e2, sum4]
  simp only [List.cons.injEq, and_true]
  omega
end Go.Proofs.YtgkljcmjnphpeaaGreatDoor.Fo
namespace Go.Proofs.YtgkljcmjnphpeaaGreatDoor
open Go.RowKit
variable {B b : Nat} {S : ByteArray} {most : Nat} {w : World} {p : Nat} {ov : Value} {out : List Nat} {e : Nat}
/-- What has come of a filter. -/
def URes (res : Except Nat (List Nat)) (o : List Nat) (e : Nat) : Prop := match res with
  | .ok l => e = 0 ∧ o = l ∧ ∀ x ∈ o, x < 256
  | .error n => e = n ∧ n ≠ 0
/-- Where the reading of the sum stands. -/
def SmSt (S : ByteArray) (q0 e0 j sum q e : Nat) : Prop :=
  (e0 ≠ 0 ∧ e = e0) ∨ (e0 = 0 ∧ e = 0 ∧ q = q0 + 8 * j ∧ q ≤ 8 * S.size ∧ sum = Fo.beN (rest4 S q0) j) ∨ (e0 = 0 ∧ e = 5 ∧ 8 * S.size < q0 + 32)
theorem SmSt.step {q0 e0 j sum q v q' e' : Nat} (h : SmSt S q0 e0 j sum q e) (hj : j < 4) (hb : BitRes S 8 q e v q' e') : SmSt S q0 e0 (j + 1) (256 * sum + v) q' e' := by
  rcases h with ⟨h0, rfl⟩ | ⟨rfl, rfl, rfl, hq, rfl⟩ | ⟨rfl, rfl, hlt⟩
  · rcases hb with ⟨_, _, _, h⟩ | ⟨h, _⟩ | ⟨h, _⟩
    · exact Or.inl ⟨h0, h⟩
    · exact absurd h h0
    · exact absurd h h0
  · rcases hb with ⟨h, _⟩ | ⟨_, hl, rfl, rfl, rfl⟩ | ⟨_, hl, rfl, rfl, rfl⟩
    · exact absurd rfl h
    · refine Or.inr (Or.inl ⟨rfl, rfl, by omega, hl, ?_⟩)
      rw [Fo.beN, rest4_drop]
    · exact Or.inr (Or.inr ⟨rfl, rfl, by omega⟩)
  · rcases hb with ⟨_, _, _, h⟩ | ⟨h, _⟩ | ⟨h, _⟩
    · exact Or.inr (Or.inr ⟨rfl, h, hlt⟩)
    · cases h
    · cases h
theorem smSt_end {r1 : Except Nat (List Bool × List Nat)} {res : Except Nat (List Nat)} {q q0 e0 sum q' e' e2 : Nat} {o : List Nat} (h0 : BRes S r1 q o e0) (hq0 : q0 = (q + 7) / 8 * 8) (hr : (∃ e, r1 = .error e ∧ res = .error e) ∨ (∃ r' o', r1 = .ok (r', o') ∧ res = Fo.sumDec r' o'))
    (h : SmSt S q0 e0 4 sum q' e') (he : e2 = if sum = 65536 * (sumAB o).2 + (sumAB o).1 ∧ q' = 8 * S.size then e' else rno 5 e') : URes res o e2 := by
  have hno : ∀ k, k ≠ 0 → e' = k → e2 = k := fun k hk h => by
    rw [he]; split
    · exact h
    · unfold rno; rw [if_neg (by omega)]; exact h
  rcases hr with ⟨n, rfl, rfl⟩ | ⟨r', o', rfl, rfl⟩
  · obtain ⟨rfl, hn⟩ := h0
    rcases h with ⟨_, h⟩ | ⟨h, _⟩ | ⟨h, _⟩
    · exact ⟨hno _ hn h, hn⟩
    · exact absurd h hn
    · exact absurd h hn
  · obtain ⟨rfl, rfl, rfl, hq, hby⟩ := h0
    have e1 : (rest4 S q).drop ((rest4 S q).length % 8) = rest4 S q0 := by
      rw [rest4_drop, rest4_len, hq0]; congr 1; omega
    have hl : (rest4 S q0).length = 8 * S.size - q0 := rest4_len S q0
    unfold Fo.sumDec
    rw [e1, hl]
    rcases h with ⟨h, _⟩ | ⟨_, rfl, rfl, hq', rfl⟩ | ⟨_, rfl, hlt⟩
    · exact absurd rfl h
    · by_cases c : Fo.beN (rest4 S q0) 4 = 65536 * (sumAB o).2 + (sumAB o).1 ∧ q0 + 8 * 4 = 8 * S.size
      · rw [if_pos c] at he
        rw [if_pos ⟨by omega, (Fo.beN_sum _ _).1 c.1⟩]
        exact ⟨he, rfl, hby⟩
      · rw [if_neg c] at he
        rw [if_neg (fun h => c ⟨(Fo.beN_sum _ _).2 h.2, by omega⟩)]
        exact ⟨he, by decide⟩
    · rw [if_neg (fun h => by omega)]
      exact ⟨hno 5 (by decide) rfl, by decide⟩
end Go.Proofs.YtgkljcmjnphpeaaGreatDoor
namespace Go.Proofs.YtgkljcmjnphpeaaGreatDoor
open Go.RowKit
variable {B br bf bd off cap : Nat} {d : List Nat} {most : Nat} {fixed : List Value} {w : World} {p held left window : Nat} {ov : Value} {out : List Nat}
/-- How many of a list are among the first lengths. -/
def cntTo (l : List Nat) : Nat → Nat
  | 0 => 0
  | n + 1 => cntTo l n + l.count (n + 1)
theorem cntTo_cons (x : Nat) (l : List Nat) : ∀ n, cntTo (x :: l) n = cntTo l n + if 1 ≤ x ∧ x ≤ n then 1 else 0
  | 0 => by simp only [cntTo]; rw [if_neg (by omega)]
  | n + 1 => by
    rw [cntTo, cntTo, cntTo_cons x l n]
    by_cases c : x = n + 1
    · subst c
      rw [List.count_cons_self, if_neg (by omega), if_pos (by omega)]; omega
    · rw [List.count_cons_of_ne (by omega)]
      by_cases c2 : 1 ≤ x ∧ x ≤ n
      · rw [if_pos c2, if_pos (by omega)]; omega
      · rw [if_neg c2, if_neg (by omega)]; omega
theorem cntTo_le : ∀ (l : List Nat) (n : Nat), cntTo l n ≤ l.length
  | [], n => by
    have : ∀ n, cntTo [] n = 0 := fun n => by
      induction n with
      | zero => rfl
      | succ n ih => rw [cntTo, ih]; rfl
    rw [this]; exact Nat.zero_le _
  | x :: l, n => by
    have := cntTo_le l n
    rw [cntTo_cons, List.length_cons]
    split <;> omega
theorem psum_cnt (l : List Nat) : ∀ n, n ≤ 15 → psum (cz l) n = cntTo l n
  | 0, _ => rfl
  | n + 1, h => by rw [psum, cntTo, psum_cnt l n (by omega), nth_cz l (n + 1) (by omega) (by omega)]
theorem ss_le {l : List Nat} (hl : ∀ i, i < l.length → nth l i < 16) : (Fo.ssOf l).length ≤ l.length := by
  rw [ss_len hl, ← psum_cz, psum_cnt l 15 (Nat.le_refl _)]
  exact cntTo_le l 15
theorem ownOk {L1 L2 : List Nat} (s1 : ∀ i, i < L1.length → nth L1 i < 16) (s2 : ∀ i, i < L2.length → nth L2 i < 16) (h1 : L1.length ≤ 1000) (h2 : L2.length ≤ 1000) : CodesOk ⟨cz L1, Fo.ssOf L1, cz L2, Fo.ssOf L2⟩ :=
  ⟨by show psum (cz L1) 15 ≤ _; rw [psum_cz, ss_len s1]; exact Nat.le_refl _, Nat.le_trans (ss_le s1) h1, by show psum (cz L2) 15 ≤ _; rw [psum_cz, ss_len s2]; exact Nat.le_refl _, Nat.le_trans (ss_le s2) h2⟩
theorem ownCodes4 {bo g1 g2 : Nat} {L1 L2 : List Nat} {rest : List Bool} (h : w.heap[bo]? = some (.cells (ownCells L1 L2 g1 g2).toArray 164 (0, 0))) (h1 : IntRow w g1 (Fo.ssOf L1)) (h2 : IntRow w g2 (Fo.ssOf L2)) (s1 : ∀ i, i < L1.length → nth L1 i < 16) (s2 : ∀ i, i < L2.length → nth L2 i < 16) (f : Fl B br bf bd off cap d most fixed w rest window ov out) :
    Codes4 B br bf bd off cap d most fixed window bo 0 ⟨cz L1, Fo.ssOf L1, cz L2, Fo.ssOf L2⟩ w := by
  intro w' r' ov' out' hf k
  have hne : ∀ x c t fz, w.heap[x]? = some (.cells c t fz) → t ≠ 141 → t ≠ 167 → x ∉ [br, bf] := fun x c t fz hx t1 t2 hm => by
    obtain ⟨p, held, left, hb, _, _⟩ := f
    rcases List.mem_cons.1 hm with rfl | hm
    · rw [hb.rd.blk] at hx; exact t1 (by injection hx with h1; injection h1 with _ h2 _; exact h2.symm)
    · rcases List.mem_cons.1 hm with rfl | hm
      · rw [hb.blk] at hx; exact t2 (by injection hx with h1; injection h1 with _ h2 _; exact h2.symm)
      · cases hm
  have r1 := k.block bo _ (hne _ _ _ _ h (by decide) (by decide)) h (Or.inr (by intro c fz e; simp at e))
  have i1 : IntRow w' g1 (Fo.ssOf L1) := by
    obtain ⟨c, fz, hb, hc⟩ := h1
    exact ⟨c, fz, k.block g1 _ (hne _ _ _ _ hb (by decide) (by decide)) hb (Or.inr (by intro c' fz' e; simp at e)), hc⟩
  have i2 : IntRow w' g2 (Fo.ssOf L2) := by
    obtain ⟨c, fz, hb, hc⟩ := h2
    exact ⟨c, fz, k.block g2 _ (hne _ _ _ _ hb (by decide) (by decide)) hb (Or.inr (by intro c' fz' e; simp at e)), hc⟩
  exact ownCd r1 i1 i2 s1 s2
theorem fres_more {v v' : Value} {w1 : World} {res : Except Nat (List Bool × List Nat)} {e : Ending} {w' : World} (k : Kept 5 B [br, bf] w w1) (h : FRes B br bf bd off cap d most fixed window w1 v res e w') : (∃ n, res = .error n ∧ e = gaveUp n ∧ FRes B br bf bd off cap d most fixed window w v' res e w') ∨ (∃ r o, res = .ok (r, o) ∧ e = .returned v ∧ FRes B br bf bd off cap d most fixed window w v' res (.returned v') w') := by
  cases res with
  | error n => exact Or.inl ⟨n, rfl, h.1, h.1, k.trans h.2⟩
  | ok x =>
    obtain ⟨r, o⟩ := x
    obtain ⟨h1, ov', h2, h3⟩ := h
    exact Or.inr ⟨r, o, rfl, h1, rfl, ov', h2, k.trans h3⟩
section
variable {rest : List Bool}
theorem block_a (h : Fl B br bf bd off cap d most fixed w rest window ov out) (hr : rest.length = 0) : Calls Tryz.prog 161 #[.pointer (some ⟨bf, 0, none⟩)] w fun e w' => e = gaveUp 5 ∧ Kept 5 B [br, bf] w w' := by
  obtain rfl : rest = [] := List.length_eq_zero_iff.1 hr
  go_enter Tryz.func161, Tryz.ntmps161
  go_wp2_with fail
  refine (bit_none h).mono ?_
  rintro e w1 ⟨rfl, k1⟩
  exact ⟨rfl, rfl, k1⟩
theorem block_b (h : Fl B br bf bd off cap d most fixed w rest window ov out) (hr : 0 < rest.length) (hr2 : rest.length < 3) : Calls Tryz.prog 161 #[.pointer (some ⟨bf, 0, none⟩)] w fun e w' => e = gaveUp 5 ∧ Kept 5 B [br, bf] w w' := by
  cases rest with
  | nil => simp at hr
  | cons b r1 =>
    rw [List.length_cons] at hr2
    have HB := hide (fun w1 (f1 : Fl B br bf bd off cap d most fixed w1 r1 window ov out) => bits_none 2 (by omega) (by omega) f1)
    cases b
    all_goals
      go_enter Tryz.func161, Tryz.ntmps161
      go_wp2_with fail
      refine (bit_ok h).mono ?_
      rintro e w1 ⟨rfl, f1, k1⟩
      simp only [Bool.toNat_false, Bool.toNat_true]
      go_wp2_with fail
      refine (HB.out _ f1).mono ?_
      rintro e w2 ⟨rfl, k2⟩
      exact ⟨rfl, rfl, k1.trans k2⟩
end
set_option maxRecDepth 100000 in
set_option maxHeartbeats 2000000 in
theorem block_any {rest : List Bool} (h : Fl B br bf bd off cap d most fixed w rest window ov out) (hx : Fix w br bf fixed) (hord : OrdW w) (hG : 1 < B) (hw : window ≤ 32768) {res : Except Nat (List Bool × List Nat)} (hb : Fo.BlockTo window most rest out res) :
    Calls Tryz.prog 161 #[.pointer (some ⟨bf, 0, none⟩)] w (FRes B br bf bd off cap d most fixed window w (.bool (decide (Fo.lastOf rest = 0))) res) := by
  by_cases c0 : rest.length = 0
  · have hE : res = .error 5 := by
      rcases hb with ⟨_, h⟩ | ⟨h3, _⟩ | ⟨h3, _⟩ | ⟨h3, _⟩ | ⟨h3, _⟩
      · exact h
      all_goals omega
    subst hE
    exact block_a h c0
  by_cases c3 : rest.length < 3
  · have hE : res = .error 5 := by
      rcases hb with ⟨_, h⟩ | ⟨h3, _⟩ | ⟨h3, _⟩ | ⟨h3, _⟩ | ⟨h3, _⟩
      · exact h
      all_goals omega
    subst hE
    exact block_b h (by omega) c3
  cases rest with
  | nil => simp at c0
  | cons b r1 =>
    rw [List.length_cons] at c3
    have hlt := h.lt
    have hGS : 1 ∉ [br, bf] := by simp; omega
    have hlast : Value.bool (decide (Fo.lastOf (b :: r1) = 0)) = .bool (!b) := by
      unfold Fo.lastOf
      cases b <;> simp [Fo.val]
    rw [hlast]
    have HBT := hide hb
    obtain ⟨s, hs⟩ : ∃ s, Fo.val (r1.take 2) = s := ⟨_, rfl⟩
    have HBI := hide (fun w1 (f1 : Fl B br bf bd off cap d most fixed w1 r1 window ov out) => bits_ok 2 (by omega) (show 2 ≤ r1.length by omega) f1)
    rw [hs] at HBI
    have HS := hide hs
    have hs4 : s < 4 := by
      have := Fo.val_lt (r1.take 2)
      rw [hs, List.length_take, Nat.min_eq_left (by omega)] at this
      exact this
    have HBT2 : Hid ((s = 0 → Fo.storedDec most (r1.drop 2) out = res) ∧ (s = 1 → Fo.PartsTo Fo.fixedC window most (r1.drop 2) out res) ∧ (s = 2 → Fo.OwnTo window most (r1.drop 2) out res) ∧ (s = 3 → res = .error 5)) := by
      have e1 : (b :: r1).drop 1 = r1 := rfl
      have e3 : (b :: r1).drop 3 = r1.drop 2 := rfl
      rcases HBT.out with ⟨h3, _⟩ | ⟨h3, hv, h⟩ | ⟨h3, hv, h⟩ | ⟨h3, hv, h⟩ | ⟨h3, hv, h⟩
      · rw [List.length_cons] at h3; omega
      all_goals
        rw [e1, hs] at hv
        (try rw [e3] at h)
        refine ⟨fun hh => ?_, fun hh => ?_, fun hh => ?_, fun hh => ?_⟩ <;> first | exact h | omega
    have HX := hide hx
    have HO := hide hord
    clear hb HBT hs hx hord hlast c0
    have hss : s = 0 ∨ s = 1 ∨ s = 2 ∨ s = 3 := by omega
    cases b
    all_goals
      go_enter Tryz.func161, Tryz.ntmps161
      go_wp2_with fail
      refine (bit_ok h).mono ?_
      rintro e w1 ⟨rfl, f1, k1⟩
      simp only [Bool.toNat_false, Bool.toNat_true]
      go_wp2_with fail
      refine (HBI.out _ f1).mono ?_
      rintro e w2 ⟨rfl, f2, k2⟩
      have KK := hide (k1.trans k2)
      have HX2 := hide (HX.out.kept KK.out)
      have HO2 := hide (HO.out.kept KK.out hG hGS)
      have F2 := hide f2
      clear k1 k2 f1 f2 HX HO h
      rcases hss with rfl | rfl | rfl | rfl
      · have HC := hide (stored_any F2.out (HBT2.out.1 rfl))
        go_wp2_with fail
        refine HC.out.mono ?_
        intro e w3 h3
        rcases fres_more KK.out h3 with ⟨n, rfl, rfl, h4⟩ | ⟨r, o, rfl, rfl, h4⟩
        · exact ⟨rfl, h4⟩
        · go_wp2
          go_ret
          exact h4
      · have HC := hide (coded_any bf 4 Fo.fixedC fixedOk HX2.out.codes F2.out hw (HBT2.out.2.1 rfl))
        go_wp2_with fail
        refine HC.out.mono ?_
        intro e w3 h3
        rcases fres_more KK.out h3 with ⟨n, rfl, rfl, h4⟩ | ⟨r, o, rfl, rfl, h4⟩
        · exact ⟨rfl, h4⟩
        · go_wp2
          go_ret
          exact h4
      · have HC := hide (own_any F2.out HO2.out hG)
        go_wp2_with fail
        refine HC.out.mono ?_
        intro e w3 h3
        rcases h3 with ⟨hno, rfl, k3⟩ | ⟨r', L, g1, g2, hh, hgd, rfl, i1, i2, f3, k3⟩
        · have hE : res = .error 5 := by
            have ht := HBT2.out.2.2.1 (by simp)
            rcases hno with hno | ⟨r', L, h1, h2⟩
            · exact ht.1 hno
            · exact (ht.2 r' L h1).1 h2
          subst hE
          exact ⟨rfl, rfl, KK.out.trans k3⟩
        · have hpt := ((HBT2.out.2.2.1 (by simp)).2 r' L hh).2 hgd
          have hsm : L.length ≤ 400 ∧ ∀ x ∈ L, x < 16 := by
            rw [Fo.ownHead_lens] at hh
            split at hh
            · cases hh
            split at hh
            · cases hh
            obtain ⟨q1, q2⟩ := lensOf_small hh
            exact ⟨by omega, q2⟩
          obtain ⟨A, hA⟩ : ∃ A, Fo.headA (r1.drop 2) = A := ⟨_, rfl⟩
          rw [hA] at hpt i1 i2 ⊢
          have s1 : ∀ i, i < (L.take A).length → nth (L.take A) i < 16 := fun i hi => nthLt (fun x hx => hsm.2 x (List.mem_of_mem_take hx)) i hi
          have s2 : ∀ i, i < (L.drop A).length → nth (L.drop A) i < 16 := fun i hi => nthLt (fun x hx => hsm.2 x (List.mem_of_mem_drop hx)) i hi
          have hok := ownOk s1 s2 (by rw [List.length_take]; omega) (by rw [List.length_drop]; omega)
          have hone : (ownCells (L.take A) (L.drop A) g1 g2).toArray.all (·.oneCell') = true := by simp [ownCells, codeCells, ints, Value.oneCell']
          have hszL : (ownCells (L.take A) (L.drop A) g1 g2).length = 34 := by rw [ownCells, List.length_append, codeCells_len, codeCells_len]
          have hszA : (ownCells (L.take A) (L.drop A) g1 g2).toArray.size = 34 := List.size_toArray.trans hszL
          have hz : (w3.alloc zero34).heap[w3.heap.size]? = some zero34 := blk_new _ _
          have hi34 : Hid ((Tryz.prog.info? 164).map (·.size) = some (ownCells (L.take A) (L.drop A) g1 g2).toArray.size) := by unfold Hid; rw [hszA]; kernel_rfl
          have ht34 : Hid ((w3.alloc zero34).there w3.heap.size 0 (ownCells (L.take A) (L.drop A) g1 g2).toArray.size) := by unfold Hid; rw [hszA]; exact there34 hz
          have hrow : (((w3.alloc zero34).setCells w3.heap.size 0 (ownCells (L.take A) (L.drop A) g1 g2)).heap[w3.heap.size]? = some (.cells (ownCells (L.take A) (L.drop A) g1 g2).toArray 164 (0, 0))) := setCells_whole hz (by rw [hszL]; rfl)
          have hj1 : IntRow ((w3.alloc zero34).setCells w3.heap.size 0 (ownCells (L.take A) (L.drop A) g1 g2)) g1 (Fo.ssOf (L.take A)) := by
            obtain ⟨cc, fz, hb, hc⟩ := i1
            exact ⟨cc, fz, by rw [setCells_ne _ (by have := lt_of_block hb; omega)]; exact blk_alloc _ hb, hc⟩
          have hj2 : IntRow ((w3.alloc zero34).setCells w3.heap.size 0 (ownCells (L.take A) (L.drop A) g1 g2)) g2 (Fo.ssOf (L.drop A)) := by
            obtain ⟨cc, fz, hb, hc⟩ := i2
            exact ⟨cc, fz, by rw [setCells_ne _ (by have := lt_of_block hb; omega)]; exact blk_alloc _ hb, hc⟩
          have hbd3 : bd < w3.heap.size := by obtain ⟨p, held, left, hb, _, _⟩ := f3; have := hb.rd.hB; have := hb.rd.hb; have := lt_of_block hb.rd.blk; omega
          have hfS : Fl B br bf bd off cap d most fixed ((w3.alloc zero34).setCells w3.heap.size 0 (ownCells (L.take A) (L.drop A) g1 g2)) r' window ov out := (f3.alloc zero34).keptE (e := 164) (by decide) (kept_setCellsE hz (Nat.le_refl _) _) hbd3
          have hkS : Kept 5 B [br, bf] w3 ((w3.alloc zero34).setCells w3.heap.size 0 (ownCells (L.take A) (L.drop A) g1 g2)) := Kept.setCellsNew ((Kept.refl _ _ _ _).alloc _) (Nat.le_refl _) _
          have HC2 := hide (coded_any w3.heap.size 0 _ hok (ownCodes4 hrow hj1 hj2 s1 s2 hfS) hfS hw hpt)
          have KS := hide (KK.out.trans (k3.trans hkS))
          clear hok hrow hj1 hj2 hfS hkS hpt s1 s2 i1 i2 f3 k3 hz hszL hszA hsm hA hh hgd
          generalize hCC : ownCells (L.take A) (L.drop A) g1 g2 = CC at *
          clear hCC
          go_wp2_with (refine wpList_store_mid rfl 164 (.tmp 4) (.tmp 29) rfl w3.heap.size 0 CC.toArray rfl rfl ht34.out hi34.out hone ?_)
          generalize hWS : World.setCells (w3.alloc _) w3.heap.size 0 CC = WS
          have hWS' : (w3.alloc zero34).setCells w3.heap.size 0 CC = WS := hWS
          rw [hWS'] at HC2 KS
          clear hWS hWS'
          refine HC2.out.mono ?_
          intro e w5 h5
          rcases fres_more KS.out h5 with ⟨n, rfl, rfl, h4⟩ | ⟨r, o, rfl, rfl, h4⟩
          · exact ⟨rfl, h4⟩
          · go_wp2
            go_ret
            exact h4
      · have hE : res = .error 5 := HBT2.out.2.2.2 rfl
        subst hE
        go_wp2_with fail
        refine (must_nob _ rfl _).mono ?_
        rintro e w3 ⟨rfl, rfl⟩
        exact ⟨rfl, rfl, KK.out⟩
end Go.Proofs.YtgkljcmjnphpeaaGreatDoor
