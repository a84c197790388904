/- Filter 4 read: a block's own codes: how full they are; their lengths one behind another. -/
import Derived.Test.YtgkljcmjnphpeaaGreatDoorK21
import Derived.Test.YtgkljcmjnphpeaaGreatDoorK22
set_option linter.unusedVariables false
set_option linter.unusedSimpArgs false
namespace Go.Proofs.YtgkljcmjnphpeaaGreatDoor
open Go.RowKit
variable {B br bf bd off cap : Nat} {d : List Nat} {most : Nat} {fixed : List Value} {w : World} {p held left window : Nat} {ov : Value} {out : List Nat}
/-- How much of the codes is left, as far as a length: what fill counts. -/
def LeftAt (cs : List Nat) (k : Nat) (l : Int) : Prop := l * 2 ^ (15 - k) + (Fo.kr (fun j => nth cs j) k : Nat) = 32768 ∧ -(1000 * (2 ^ k - 1)) ≤ l ∧ l ≤ 2 ^ k
theorem LeftAt.step {cs : List Nat} {k : Nat} {l : Int} (h : LeftAt cs k l) (hk : k < 15) (hc : nth cs (k + 1) ≤ 1000) : LeftAt cs (k + 1) (2 * l - (nth cs (k + 1) : Nat)) := by
  obtain ⟨h1, h2, h3⟩ := h
  have e1 : (2 : Int) ^ (15 - k) = 2 * 2 ^ (14 - k) := by rw [show 15 - k = (14 - k) + 1 by omega, Int.pow_succ]; omega
  have e2 : (2 : Int) ^ (k + 1) = 2 * 2 ^ k := by rw [Int.pow_succ]; omega
  have e3 : ((Fo.kr (fun j => nth cs j) (k + 1) : Nat) : Int) = (Fo.kr (fun j => nth cs j) k : Nat) + (nth cs (k + 1) : Nat) * 2 ^ (14 - k) := by
    rw [Fo.kr]; simp
  refine ⟨?_, ?_, ?_⟩
  · rw [e3, show 15 - (k + 1) = 14 - k by omega]
    rw [e1] at h1
    generalize (2 : Int) ^ (14 - k) = P at *
    rw [Int.sub_mul, Int.mul_assoc 2 l P]
    rw [show l * (2 * P) = 2 * (l * P) by rw [← Int.mul_assoc, Int.mul_comm l 2, Int.mul_assoc]] at h1
    omega
  · rw [e2]; generalize (2 : Int) ^ k = P at *; omega
  · rw [e2]; generalize (2 : Int) ^ k = P at *; omega
set_option maxHeartbeats 1000000 in
theorem fill_ok (bc oc : Nat) (cs ss : List Nat) (hC : Cd w bc oc cs ss) (hc : ∀ i, i < 16 → nth cs i ≤ 1000) :
    Calls Tryz.prog 280 #[.pointer (some ⟨bc, oc, none⟩)] w fun e w' => e = .returned (.bool (decide (Fo.kr (fun j => nth cs j) 15 = 32768))) ∧ w' = w := by
  obtain ⟨hcs, _⟩ := hC
  have HCS := hide hcs
  have HC := hide hc
  clear hcs hc
  go_enter Tryz.func280, Tryz.ntmps280
  go_wp2
  go_loopw [3, 4] (fun vl vk wr => ∃ (k : Nat) (l : Int), k ≤ 15 ∧ vl = .int .i64 l ∧ vk = .int .i64 (k + 1 : Nat) ∧ Hid (LeftAt cs k l) ∧ (-33000000 ≤ l ∧ l ≤ 33000) ∧ wr = w) (fun _ vk _ => 16 - (intOf vk).toNat)
  case atStart => exact ⟨0, 1, by omega, rfl, rfl, ⟨by simp [Fo.kr], by simp, by simp⟩, by omega, rfl⟩
  case round =>
    obtain ⟨k, l, hk, rfl, rfl, HL, hb, rfl⟩ := hrel
    by_cases c : k < 15
    · have c' : ((k + 1 : Nat) : Int) ≤ 15 := by omega
      have hcell := HCS.out (k + 1) (by omega)
      have hcc := HC.out (k + 1) (by omega)
      have hst := HL.out.step c hcc
      have HST := hide hst
      have hb2 : -33000000 ≤ 2 * l - (nth cs (k + 1) : Nat) ∧ 2 * l - (nth cs (k + 1) : Nat) ≤ 33000 := by
        obtain ⟨_, g2, g3⟩ := hst
        have hp : (2 : Nat) ^ (k + 1) ≤ 2 ^ 15 := Nat.pow_le_pow_right (by omega) (by omega)
        have h15 : (2 : Nat) ^ 15 = 32768 := by decide
        have hp2 : ((2 ^ (k + 1) : Nat) : Int) ≤ 32768 := by omega
        rw [show ((2 : Int) ^ (k + 1)) = ((2 ^ (k + 1) : Nat) : Int) by simp] at g2 g3
        generalize ((2 ^ (k + 1) : Nat) : Int) = P at *
        omega
      generalize nth cs (k + 1) = N at *
      clear hst HL
      go_wp2
      go_roundw
      case rel => exact ⟨k + 1, 2 * l - (N : Nat), by omega, by first | rfl | go_num, by go_num, HST, hb2, by first | trivial | rfl⟩
      case measure => simp [intOf]; omega
    · have c' : ¬ ((k + 1 : Nat) : Int) ≤ 15 := by omega
      obtain rfl : k = 15 := by omega
      have hl : l = 32768 - (Fo.kr (fun j => nth cs j) 15 : Nat) := by
        have := HL.out.1
        simp at this; omega
      have hz : (l == 0) = decide (Fo.kr (fun j => nth cs j) 15 = 32768) := by
        rw [hl, Bool.eq_iff_iff]; simp; omega
      clear hl HL
      go_wp2
      go_ret
      exact ⟨by rw [← hz]; rfl, rfl⟩
theorem few_ok (bc oc : Nat) (cs ss : List Nat) (hC : Cd w bc oc cs ss) (hss : ss.length ≤ 1000) (hc : nth cs 1 ≤ 1000) :
    Calls Tryz.prog 281 #[.pointer (some ⟨bc, oc, none⟩)] w fun e w' => e = .returned (.bool (decide (ss.length = nth cs 1 ∧ ss.length ≤ 1))) ∧ ∃ q, w' = w.drewN q := by
  obtain ⟨hcs, g, c, hg, _⟩ := hC
  have c1 := hcs 1 (by omega)
  clear hcs
  generalize nth cs 1 = N at *
  by_cases t1 : ss.length = N
  · have t1' : ((ss.length : Int) == (N : Int)) = true := by simp; omega
    by_cases t2 : ss.length ≤ 1
    · have t2' : decide ((ss.length : Int) ≤ 1) = true := by simp; omega
      have hd : decide (ss.length = N ∧ ss.length ≤ 1) = true := by simp [t1]; omega
      rw [hd]
      clear t1 hd
      go_enter Tryz.func281, Tryz.ntmps281
      go_wp2_with fail
      go_quiet (fail)
      go_wp2
      go_ret
      exact ⟨rfl, nq, rfl⟩
    · have t2' : decide ((ss.length : Int) ≤ 1) = false := by simp; omega
      have hd : decide (ss.length = N ∧ ss.length ≤ 1) = false := by simp; omega
      rw [hd]
      clear t1 hd
      go_enter Tryz.func281, Tryz.ntmps281
      go_wp2_with fail
      go_quiet (fail)
      go_wp2
      go_ret
      exact ⟨rfl, nq, rfl⟩
  · have t1' : ((ss.length : Int) == (N : Int)) = false := by simp; omega
    have hd : decide (ss.length = N ∧ ss.length ≤ 1) = false := by simp; omega
    rw [hd]
    clear t1 hd
    go_enter Tryz.func281, Tryz.ntmps281
    go_wp2_with fail
    go_quiet (fail)
    go_wp2
    go_ret
    exact ⟨rfl, nq, rfl⟩
theorem Fl.keptI {rest : List Bool} {w' : World} {B' : Nat} (h : Fl B br bf bd off cap d most fixed w rest window ov out) (k : Kept 3 B' [] w w') (hbd : bd < B') : Fl B br bf bd off cap d most fixed w' rest window ov out := by
  obtain ⟨p, held, left, hb, hl, hr⟩ := h
  obtain ⟨⟨r1, r2, r3, r4, r5, r6, r7, r8, r9, r10, r11⟩, h2, h3, h4, h5⟩ := hb
  refine ⟨p, held, left, ⟨⟨r1, r2, k.block br _ (by simp) r3 (Or.inr (by intro c fz e; simp at e)), ?_, ?_, r6, r7, r8, r9, r10, r11⟩, h2, k.block bf _ (by simp) h3 (Or.inr (by intro c fz e; simp at e)), h4, h5⟩, hl, hr⟩
  · intro i hi
    have hc := r4 i hi
    obtain ⟨o, ho⟩ : ∃ o, w.heap[bd]? = some o := by
      cases h : w.heap[bd]? with
      | some o => exact ⟨o, rfl⟩
      | none => simp [World.cell?, h] at hc
    have ho2 := k.block bd o (by simp) ho (Or.inl hbd)
    rw [← hc]
    simp [World.cell?, ho, ho2]
  · obtain ⟨q1, q2⟩ := r5
    refine ⟨q1, ?_⟩
    rcases q2 with q2 | ⟨g, c, cur, e1, e2, hh, hc⟩
    · exact Or.inl q2
    · exact Or.inr ⟨g, c, cur, e1, e2, k.block g _ (by simp) hh (Or.inr (by intro c fz e; simp at e)), hc⟩
theorem ownI_keptF {rest : List Bool} {w' : World} {B' n : Nat} {v : Value} {xs : List Value} (h : w.ownsRow B' 3 1 v n xs) (r : Fl B br bf bd off cap d most fixed w rest window ov out) (k : Kept 5 B [br, bf] w w') : w'.ownsRow B' 3 1 v n xs := by
  obtain ⟨h1, h2⟩ := h
  refine ⟨h1, ?_⟩
  rcases h2 with h2 | ⟨g, c, cur, e1, e2, hh, hc⟩
  · exact Or.inl h2
  · refine Or.inr ⟨g, c, cur, e1, e2, k.block g _ ?_ hh (Or.inr (by intro c fz e; simp at e)), hc⟩
    obtain ⟨p, held, left, hb, _, _⟩ := r
    intro hg
    rcases List.mem_cons.1 hg with rfl | hg
    · rw [hb.rd.blk] at hh; simp at hh
    · rcases List.mem_cons.1 hg with rfl | hg
      · rw [hb.blk] at hh; simp at hh
      · cases hg
end Go.Proofs.YtgkljcmjnphpeaaGreatDoor
