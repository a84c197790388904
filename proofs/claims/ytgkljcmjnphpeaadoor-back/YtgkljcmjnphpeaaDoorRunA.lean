/- The filter of runs, written: sameAhead, mixedAhead. -/
import Derived.Test.YtgkljcmjnphpeaaDoorHexE
import Derived.Test.YtgkljcmjnphpeaaDoorDefl
import Derived.Test.YtgkljcmjnphpeaaDoorMatch
set_option linter.unusedVariables false
set_option linter.unusedSimpArgs false
namespace Go.Proofs.YtgkljcmjnphpeaaDoor
open Go.RowKit
variable {w : World} {B cap : Nat} {ao : Option Addr}

namespace Fo
/-- How many bytes at the beginning are like the first, as far as one run goes. -/
def sameGo (l : List Nat) : Nat → Nat → Nat
  | 0, n => n
  | f + 1, n => if n < l.length ∧ n < 128 ∧ nth l n = nth l 0 then sameGo l f (n + 1) else n
def sameN (l : List Nat) : Nat := sameGo l 128 1
/-- How many bytes there are ahead of the first two that are the same. -/
def mixGo (l : List Nat) : Nat → Nat → Nat
  | 0, n => n
  | f + 1, n => if n < l.length ∧ n < 128 ∧ ¬ (n + 1 < l.length ∧ nth l n = nth l (n + 1)) then mixGo l f (n + 1) else n
def mixN (l : List Nat) : Nat := mixGo l 129 0
def runGo : Nat → List Nat → List Nat
  | 0, _ => [128]
  | f + 1, l => if l.length = 0 then [128] else if 1 < sameN l then (257 - sameN l) :: nth l 0 :: runGo f (l.drop (sameN l)) else (mixN l - 1) :: (l.take (mixN l) ++ runGo f (l.drop (mixN l)))
def encRun (l : List Nat) : List Nat := runGo (l.length + 1) l

theorem encRun_aab : encRun [97, 97, 98] = [255, 97, 0, 98, 128] := by decide +kernel

theorem sameGo_le (l : List Nat) : ∀ f n, n ≤ 128 → n ≤ l.length → n ≤ sameGo l f n ∧ sameGo l f n ≤ 128 ∧ sameGo l f n ≤ l.length
  | 0, n, h1, h2 => ⟨Nat.le_refl _, h1, h2⟩
  | f + 1, n, h1, h2 => by
    unfold sameGo
    split
    · rename_i c
      have := sameGo_le l f (n + 1) (by omega) (by omega)
      omega
    · exact ⟨Nat.le_refl _, h1, h2⟩
theorem sameGo_same (l : List Nat) : ∀ f n, (∀ i, i < n → nth l i = nth l 0) → ∀ i, i < sameGo l f n → nth l i = nth l 0
  | 0, n, h => h
  | f + 1, n, h => by
    unfold sameGo
    split
    · rename_i c
      exact sameGo_same l f (n + 1) (fun i hi => by
        by_cases e : i = n
        · subst e; exact c.2.2
        · exact h i (by omega))
    · exact h
theorem mixGo_le (l : List Nat) : ∀ f n, n ≤ 128 → n ≤ l.length → n ≤ mixGo l f n ∧ mixGo l f n ≤ 128 ∧ mixGo l f n ≤ l.length
  | 0, n, h1, h2 => ⟨Nat.le_refl _, h1, h2⟩
  | f + 1, n, h1, h2 => by
    unfold mixGo
    split
    · rename_i c
      have := mixGo_le l f (n + 1) (by omega) (by omega)
      omega
    · exact ⟨Nat.le_refl _, h1, h2⟩
theorem sameN_le (l : List Nat) (h : 0 < l.length) : 1 ≤ sameN l ∧ sameN l ≤ 128 ∧ sameN l ≤ l.length := sameGo_le l 128 1 (by omega) h
theorem mixN_le (l : List Nat) (h : 0 < l.length) (hs : ¬ 1 < sameN l) : 1 ≤ mixN l ∧ mixN l ≤ 128 ∧ mixN l ≤ l.length := by
  have h1 : ¬ (0 + 1 < l.length ∧ nth l 0 = nth l (0 + 1)) := by
    rintro ⟨a, b⟩
    apply hs
    unfold sameN
    rw [sameGo, if_pos ⟨by omega, by omega, b.symm⟩]
    have := sameGo_le l 127 (1 + 1) (by omega) (by omega)
    omega
  unfold mixN
  rw [mixGo, if_pos ⟨h, by omega, h1⟩]
  have := mixGo_le l 128 (0 + 1) (by omega) (by omega)
  omega
end Fo

def pairOf (l : List Nat) (n : Nat) : Prop := n + 1 < l.length ∧ nth l n = nth l (n + 1)

theorem pairAt_yes {l : List Nat} (hd : Dat w B ao l) (hl : l.length ≤ 1000000) (n : Nat) (hp : pairOf l n) :
    Calls Tryd.prog 42 #[.slice ao l.length cap, .int .i64 n] w fun e w' => e = .returned (.bool true) ∧ ∃ q, w' = w.drewN q := by
  obtain ⟨h1, h2⟩ := hp
  obtain ⟨b, o, rfl, _, hc⟩ := hd.at (by omega)
  have d1 := hc n (by omega)
  have d2 := hc (n + 1) h1
  rw [h2] at d1
  have t1 : decide ((n : Int) + 1 < l.length) = true := by simp; omega
  generalize nth l (n + 1) = X at *
  clear hc hd h2
  go_enter Tryd.func42, Tryd.ntmps42
  go_wp2_with fail
  go_quiet (fail)
  go_wp2
  go_ret
  exact ⟨rfl, nq, rfl⟩

theorem pairAt_no {l : List Nat} (hd : Dat w B ao l) (hl : l.length ≤ 1000000) (n : Nat) (hn : n < l.length) (hp : ¬ pairOf l n) :
    Calls Tryd.prog 42 #[.slice ao l.length cap, .int .i64 n] w fun e w' => e = .returned (.bool false) ∧ ∃ q, w' = w.drewN q := by
  by_cases h1 : n + 1 < l.length
  · have h2 : nth l n ≠ nth l (n + 1) := fun e => hp ⟨h1, e⟩
    obtain ⟨b, o, rfl, _, hc⟩ := hd.at (by omega)
    have d1 := hc n (by omega)
    have d2 := hc (n + 1) h1
    have t1 : decide ((n : Int) + 1 < l.length) = true := by simp; omega
    have t2 : ((nth l n : Int) == (nth l (n + 1) : Int)) = false := by simp; omega
    generalize nth l (n + 1) = X at *
    generalize nth l n = Y at *
    clear hc hd h2 hp
    go_enter Tryd.func42, Tryd.ntmps42
    go_wp2_with fail
    go_quiet (fail)
    go_wp2
    go_ret
    exact ⟨rfl, nq, rfl⟩
  · have t1 : decide ((n : Int) + 1 < l.length) = false := by simp; omega
    go_enter Tryd.func42, Tryd.ntmps42
    go_wp2_with fail
    go_quiet (fail)
    go_wp2
    go_ret
    exact ⟨rfl, nq, rfl⟩
end Go.Proofs.YtgkljcmjnphpeaaDoor
namespace Go.Proofs.YtgkljcmjnphpeaaDoor
open Go.RowKit
variable {w : World} {B cap : Nat} {ao : Option Addr}

theorem sameGo_on {l : List Nat} {k : Nat} (hk : k ≤ 128) (h : k < l.length ∧ k < 128 ∧ nth l k = nth l 0) : Fo.sameGo l (129 - k) k = Fo.sameGo l (129 - (k + 1)) (k + 1) := by
  rw [show 129 - k = (129 - (k + 1)) + 1 by omega, Fo.sameGo, if_pos h]
theorem sameGo_off {l : List Nat} {k : Nat} (hk : k ≤ 128) (h : ¬ (k < l.length ∧ k < 128 ∧ nth l k = nth l 0)) : Fo.sameGo l (129 - k) k = k := by
  rw [show 129 - k = (128 - k) + 1 by omega, Fo.sameGo, if_neg h]
theorem mixGo_on {l : List Nat} {k : Nat} (hk : k ≤ 128) (h : k < l.length ∧ k < 128 ∧ ¬ pairOf l k) : Fo.mixGo l (129 - k) k = Fo.mixGo l (129 - (k + 1)) (k + 1) := by
  unfold pairOf at h
  rw [show 129 - k = (129 - (k + 1)) + 1 by omega, Fo.mixGo, if_pos h]
theorem mixGo_off {l : List Nat} {k : Nat} (hk : k ≤ 128) (h : ¬ (k < l.length ∧ k < 128 ∧ ¬ pairOf l k)) : Fo.mixGo l (129 - k) k = k := by
  unfold pairOf at h
  rw [show 129 - k = (128 - k) + 1 by omega, Fo.mixGo, if_neg h]

set_option maxRecDepth 100000 in
set_option maxHeartbeats 1000000 in
theorem sameAhead_ok {l : List Nat} (hd : Dat w B ao l) (hl : l.length ≤ 1000000) (hB : B ≤ w.heap.size) (h0 : 0 < l.length) :
    Calls Tryd.prog 25 #[.slice ao l.length cap] w fun e w' => e = .returned (.int .i64 (Fo.sameN l : Nat)) ∧ Below w.heap.size w w' := by
  have HR : Hid (Fo.sameGo l (129 - 1) 1 = Fo.sameN l) := hide rfl
  generalize Fo.sameN l = R at *
  obtain ⟨b, o, rfl, hbB, hc⟩ := hd.at h0
  have HC := hide hc
  clear hc hd
  go_enter Tryd.func25, Tryd.ntmps25
  go_wp2
  go_loopw [3] (fun n wr => ∃ k : Nat, 1 ≤ k ∧ k ≤ 128 ∧ k ≤ l.length ∧ n = .int .i64 k ∧ Hid (Fo.sameGo l (129 - k) k = R) ∧ Below w.heap.size w wr) (fun n _ => 128 - (intOf n).toNat)
  case atStart => exact ⟨1, by omega, by omega, h0, rfl, HR, Below.refl _ _⟩
  clear HR
  case round =>
    obtain ⟨k, k1, k2, k3, rfl, HK, bl⟩ := hrel
    by_cases t1 : k < l.length
    · have t1' : decide ((k : Int) < l.length) = true := by simp; omega
      by_cases t2 : k < 128
      · have t2' : decide ((k : Int) < 128) = true := by simp; omega
        have d1 := (bl.cell (p := ⟨b, o + k, none⟩) (by show b < _; omega)).trans (HC.out k t1)
        have d2 : wr.cell? ⟨b, o, none⟩ = some (.int .u8 (nth l 0 : Nat)) := (bl.cell (p := ⟨b, o, none⟩) (by show b < _; omega)).trans (HC.out 0 h0)
        by_cases t3 : nth l k = nth l 0
        · have HN := hide ((sameGo_on k2 ⟨t1, t2, t3⟩).symm.trans HK.out)
          have t3' : ((nth l k : Int) == (nth l 0 : Int)) = true := by simp [t3]
          generalize nth l k = X at d1 t3'
          generalize nth l 0 = Y at d2 t3'
          clear t3 HK
          go_wp2_with fail
          go_quiet (fail)
          go_wp2
          go_roundw
          case rel => exact ⟨k + 1, by omega, by omega, by omega, by go_num, HN, below_drewN bl _⟩
          case measure => simp [intOf]; omega
        · have HN := hide ((sameGo_off k2 (fun c => t3 c.2.2)).symm.trans HK.out)
          have t3' : ((nth l k : Int) == (nth l 0 : Int)) = false := by simp; omega
          generalize nth l k = X at d1 t3'
          generalize nth l 0 = Y at d2 t3'
          clear t3 HK
          go_wp2_with fail
          go_quiet (fail)
          go_wp2
          go_ret
          exact ⟨ret_int (by rw [HN.out]), below_drewN bl _⟩
      · have HN := hide ((sameGo_off k2 (fun c => t2 c.2.1)).symm.trans HK.out)
        have t2' : decide ((k : Int) < 128) = false := by simp; omega
        clear HK
        go_wp2_with fail
        go_quiet (fail)
        go_wp2
        go_ret
        exact ⟨ret_int (by rw [HN.out]), below_drewN bl _⟩
    · have HN := hide ((sameGo_off k2 (fun c => t1 c.1)).symm.trans HK.out)
      have t1' : decide ((k : Int) < l.length) = false := by simp; omega
      clear HK
      go_wp2_with fail
      go_quiet (fail)
      go_wp2
      go_ret
      exact ⟨ret_int (by rw [HN.out]), below_drewN bl _⟩

set_option maxRecDepth 100000 in
set_option maxHeartbeats 1000000 in
theorem mixedAhead_ok {l : List Nat} (hd : Dat w B ao l) (hl : l.length ≤ 1000000) (hB : B ≤ w.heap.size) :
    Calls Tryd.prog 26 #[.slice ao l.length cap] w fun e w' => e = .returned (.int .i64 (Fo.mixN l : Nat)) ∧ Below w.heap.size w w' := by
  have HR : Hid (Fo.mixGo l (129 - 0) 0 = Fo.mixN l) := hide rfl
  generalize Fo.mixN l = R at *
  have HD := hide hd
  clear hd
  go_enter Tryd.func26, Tryd.ntmps26
  go_wp2
  go_loopw [3] (fun n wr => ∃ k : Nat, k ≤ 128 ∧ k ≤ l.length ∧ n = .int .i64 k ∧ Hid (Fo.mixGo l (129 - k) k = R) ∧ Below w.heap.size w wr) (fun n _ => 128 - (intOf n).toNat)
  case atStart => exact ⟨0, by omega, by omega, rfl, HR, Below.refl _ _⟩
  clear HR
  case round =>
    obtain ⟨k, k2, k3, rfl, HK, bl⟩ := hrel
    have HD2 := hide (HD.out.below bl)
    by_cases t1 : k < l.length
    · have t1' : (k : Int) < l.length := by omega
      by_cases t2 : k < 128
      · have t2' : (k : Int) < 128 := by omega
        by_cases t3 : pairOf l k
        · have HN := hide ((mixGo_off k2 (fun c => c.2.2 t3)).symm.trans HK.out)
          have T3 := hide t3
          clear t3 HK
          go_wp2_with fail
          refine (pairAt_yes HD2.out hl k T3.out).mono ?_
          rintro e w1 ⟨rfl, q, rfl⟩
          go_wp2
          go_ret
          exact ⟨ret_int (by rw [HN.out]), below_drewN bl _⟩
        · have HN := hide ((mixGo_on k2 ⟨t1, t2, t3⟩).symm.trans HK.out)
          have T3 := hide t3
          clear t3 HK
          go_wp2_with fail
          refine (pairAt_no HD2.out hl k t1 T3.out).mono ?_
          rintro e w1 ⟨rfl, q, rfl⟩
          go_wp2
          go_roundw
          case rel => exact ⟨k + 1, by omega, by omega, by go_num, HN, below_drewN bl _⟩
          case measure => simp [intOf]; omega
      · have HN := hide ((mixGo_off k2 (fun c => t2 c.2.1)).symm.trans HK.out)
        have t2' : ¬ (k : Int) < 128 := by omega
        clear HK
        go_wp2
        go_ret
        exact ⟨ret_int (by rw [HN.out]), bl⟩
    · have HN := hide ((mixGo_off k2 (fun c => t1 c.1)).symm.trans HK.out)
      have t1' : ¬ (k : Int) < l.length := by omega
      clear HK
      go_wp2
      go_ret
      exact ⟨ret_int (by rw [HN.out]), bl⟩
end Go.Proofs.YtgkljcmjnphpeaaDoor
