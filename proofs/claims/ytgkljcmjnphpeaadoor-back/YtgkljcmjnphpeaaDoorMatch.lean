/- deflater.match. -/
import Derived.Test.YtgkljcmjnphpeaaDoorDefl
set_option linter.unusedVariables false
set_option linter.unusedSimpArgs false
namespace Go.Proofs.YtgkljcmjnphpeaaDoor
open Go.RowKit
variable {w : World} {B bw bm g1 g2 cap T : Nat} {data : List Nat} {ao : Option Addr} {bs : List Bool} {at_ : Nat} {rest : List Value}

theorem below_drewN {B : Nat} {a w : World} (h : Below B a w) (n : Nat) : Below B a (w.drewN n) := ⟨h.os, h.tape, h.output, h.size, h.block⟩

def MatchOk (data : List Nat) (at_ l d : Nat) : Prop := l = 0 ∨ (3 ≤ l ∧ l ≤ 258 ∧ 1 ≤ d ∧ d ≤ 32768 ∧ d ≤ at_ ∧ at_ + l ≤ data.length ∧ ∀ i, i < l → nth data (at_ + i) = nth data (at_ - d + i))

theorem hasKey_is (h : De B bw bm g1 g2 cap data ao w bs at_) (v : Bool) (hv : decide (at_ + 3 ≤ data.length) = v) :
    Calls Tryd.prog 81 #[.pointer (some ⟨bw, 0, none⟩)] w fun e w' => e = .returned (.bool v) ∧ ∃ q, w' = w.drewN q := by
  subst hv; exact hasKey_ok h

set_option maxRecDepth 100000 in
set_option maxHeartbeats 2000000 in
theorem match_ok (h : De B bw bm g1 g2 cap data ao w bs at_) :
    Calls Tryd.prog 65 #[.pointer (some ⟨bw, 0, none⟩)] w fun e w' => ∃ l d : Nat, e = .returned (.tuple #[.int .i64 l, .int .i64 d]) ∧ Below w.heap.size w w' ∧ MatchOk data at_ l d := by
  by_cases hk : at_ + 3 ≤ data.length
  · have H := hide h
    clear h
    go_enter Tryd.func65, Tryd.ntmps65
    go_wp2_with (go_at_call 81; refine (hasKey_is H.out true (decide_eq_true hk)).mono ?_; rintro e w1 ⟨rfl, q, rfl⟩)
    have hq : Below w.heap.size w (w.drewN q) := ⟨rfl, rfl, rfl, Nat.le_refl _, fun _ _ => rfl⟩
    have H1 := hide (H.out.below hq)
    generalize hwq : w.drewN q = w1 at *
    clear hwq
    obtain ⟨c2, c3, c4, _, _, hbw, hlt, _⟩ := H1.out.cells
    have HD : Hid (De B bw bm g1 g2 cap data ao w1.drew bs at_) := H1.out.below (Below.refl _ _).drew
    go_region_with (go_at_call 82; refine (key_ok HD.out hk).mono ?_; rintro e w2 ⟨rfl, b2⟩; have H2 := hide (HD.out.below b2); have hc4 := H2.out.cells.2.2.1; obtain ⟨p, ok, hlk, hp⟩ := H2.out.st.look H2.out.byt at_ hk; have HP := hide hp; clear hp)
    all_goals clear hc4 hlk c2 c3 c4 HD H1
    all_goals have B2 : Hid (Below w.heap.size w w2) := (hq.trans (Below.refl _ _).drew).trans (b2.mono hq.size)
    all_goals clear hq b2
    all_goals obtain ⟨c2, c3, _, _, _, hbw, hlt, _⟩ := H2.out.cells
    all_goals obtain ⟨b, o, rfl, hb, hdc⟩ := H2.out.dat.at (by omega)
    all_goals have hlen := H2.out.len
    all_goals have HDC := hide hdc
    all_goals clear hdc
    all_goals (
      cases ok
      · clear HP
        go_wp2
        refine bodyPost_ret (v := .tuple #[.int .i64 0, .int .i64 0]) (by simp [results, Tryd.results65, go_sem]) rfl ⟨0, 0, rfl, B2.out, Or.inl rfl⟩
      · obtain ⟨p1, p2, e0, e1, e2⟩ := HP.out rfl
        have HE := hide (And.intro e0 (And.intro e1 e2))
        clear e0 e1 e2 HP
        by_cases hf : 32768 < at_ - p
        · have hf' : (32768 : Int) < (at_ : Int) - p := by omega
          clear hf
          go_wp2
          refine bodyPost_ret (v := .tuple #[.int .i64 0, .int .i64 0]) (by simp [results, Tryd.results65, go_sem]) rfl ⟨0, 0, rfl, B2.out, Or.inl rfl⟩
        · have hf' : ¬ (32768 : Int) < (at_ : Int) - p := by omega
          go_wp2_with fail
          clear c2 c3
          go_loopw [2] (fun l wr => ∃ k : Nat, 3 ≤ k ∧ k ≤ 258 ∧ l = .int .i64 k ∧ at_ + k ≤ data.length ∧ Hid (∀ i, i < k → nth data (at_ + i) = nth data (p + i)) ∧ Below w2.heap.size w2 wr) (fun l _ => 258 - (intOf l).toNat)
          case atStart =>
            refine ⟨3, by omega, by omega, rfl, hk, ?_, Below.refl _ _⟩
            intro i hi
            obtain ⟨e0, e1, e2⟩ := HE.out
            match i, hi with
            | 0, _ => exact e0.symm
            | 1, _ => exact e1.symm
            | 2, _ => exact e2.symm
          case round =>
            obtain ⟨k, hk3, hk258, rfl, hal, HM, bl⟩ := hrel
            have H3 := hide (H2.out.below bl)
            have c2 := H3.out.cells.1
            have c3 := H3.out.cells.2.1
            have hkI : (k : Int) ≤ 258 := by omega
            have hFin : Hid (Below w.heap.size w wr ∧ MatchOk data at_ k (at_ - p)) := by
              refine ⟨B2.out.trans (bl.mono B2.out.size), Or.inr ⟨hk3, hk258, by omega, by omega, by omega, hal, fun i hi => ?_⟩⟩
              rw [show at_ - (at_ - p) + i = p + i by omega]
              exact HM.out i hi
            by_cases t1 : k < 258
            · have t1' : decide ((k : Int) < 258) = true := by simp; omega
              by_cases t2 : at_ + k < data.length
              · have t2' : decide ((at_ : Int) + k < data.length) = true := by simp; omega
                have d1 := (bl.cell (p := ⟨b, o + (at_ + k), none⟩) (by show b < _; omega)).trans (HDC.out (at_ + k) t2)
                have d2 := (bl.cell (p := ⟨b, o + (p + k), none⟩) (by show b < _; omega)).trans (HDC.out (p + k) (by omega))
                have hb2 := H2.out.lc
                by_cases t3 : nth data (at_ + k) = nth data (p + k)
                · have HT : Hid (∀ i, i < k + 1 → nth data (at_ + i) = nth data (p + i)) := by
                    intro i hi
                    by_cases c : i = k
                    · subst c; exact t3
                    · exact HM.out i (by omega)
                  have t3' : ((nth data (at_ + k) : Int) == (nth data (p + k) : Int)) = true := by simp [t3]
                  generalize nth data (at_ + k) = X at d1 t3'
                  generalize nth data (p + k) = Y at d2 t3'
                  clear t3
                  go_wp2_with fail
                  go_quiet (fail)
                  go_wp2
                  go_roundw
                  case rel => exact ⟨k + 1, by omega, by omega, by go_num, by omega, HT, below_drewN bl _⟩
                  case measure => simp [intOf]; omega
                · have t3' : ((nth data (at_ + k) : Int) == (nth data (p + k) : Int)) = false := by simp; omega
                  generalize nth data (at_ + k) = X at d1 t3'
                  generalize nth data (p + k) = Y at d2 t3'
                  clear t3
                  go_wp2_with fail
                  go_quiet (fail)
                  go_wp2_with fail
                  go_quiet (fail)
                  go_wp2
                  rw [show (at_ : Int) - p = ((at_ - p : Nat) : Int) by omega]
                  refine bodyPost_ret (v := .tuple #[.int .i64 k, .int .i64 (at_ - p : Nat)]) (by simp [results, Tryd.results65, go_sem]) rfl ⟨k, at_ - p, rfl, below_drewN (below_drewN hFin.out.1 _) _, hFin.out.2⟩
              · have t2' : decide ((at_ : Int) + k < data.length) = false := by simp; omega
                go_wp2_with fail
                go_quiet (fail)
                go_wp2_with fail
                go_quiet (fail)
                go_wp2
                rw [show (at_ : Int) - p = ((at_ - p : Nat) : Int) by omega]
                refine bodyPost_ret (v := .tuple #[.int .i64 k, .int .i64 (at_ - p : Nat)]) (by simp [results, Tryd.results65, go_sem]) rfl ⟨k, at_ - p, rfl, below_drewN (below_drewN hFin.out.1 _) _, hFin.out.2⟩
            · have t1' : decide ((k : Int) < 258) = false := by simp; omega
              go_wp2_with fail
              go_quiet (fail)
              go_wp2_with fail
              go_quiet (fail)
              go_wp2
              rw [show (at_ : Int) - p = ((at_ - p : Nat) : Int) by omega]
              refine bodyPost_ret (v := .tuple #[.int .i64 k, .int .i64 (at_ - p : Nat)]) (by simp [results, Tryd.results65, go_sem]) rfl ⟨k, at_ - p, rfl, below_drewN (below_drewN hFin.out.1 _) _, hFin.out.2⟩)
  · have H := hide h
    clear h
    go_enter Tryd.func65, Tryd.ntmps65
    go_wp2_with (go_at_call 81; refine (hasKey_is H.out false (decide_eq_false hk)).mono ?_; rintro e w1 ⟨rfl, q, rfl⟩)
    refine bodyPost_ret (v := .tuple #[.int .i64 0, .int .i64 0]) (by simp [results, Tryd.results65, go_sem]) rfl ⟨0, 0, rfl, ⟨rfl, rfl, rfl, Nat.le_refl _, fun _ _ => rfl⟩, Or.inl rfl⟩
end Go.Proofs.YtgkljcmjnphpeaaDoor
